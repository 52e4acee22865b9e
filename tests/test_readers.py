"""Reading of texts [92]."""

from random import Random

from asmuchas.book import Book
from asmuchas.errors import NoText, Nothing
from asmuchas.notation import (
    show_book, show_entry, show_pair, show_sum, show_telling, show_told, show_worths,
)
from asmuchas.readers import read_book, read_entry, read_pair, read_sum, read_telling, read_told, read_worths
from asmuchas.told import Told
from tests.helpers import BAD, BOTH, EMPTY, SIX, Case, every_sum, great_tolds, odd_values, small_tolds
from tests.test_book import APART, BARE, MORE, SAME, THINGS, WIDE, led
from tests.test_notation import NAMED, WORDS

FORTY = 10 ** 40 - 1
SHOWN = {
    read_sum: show_sum, read_pair: show_pair, read_telling: show_telling, read_told: show_told, read_entry: show_entry,
    read_book: show_book, read_worths: show_worths,
}
# of each reader texts that are right, from which others that are wrong are made
RIGHT = {
    read_sum: ["0", "a", "a + a", "ab + b + things"],
    read_pair: ["0 ? 0", "a + b ? c", "a ? 0", "0 ? word + word + word"],
    read_telling: ["a = b", "0 > a + b", "a + a + c != 0", "strike = strike", "things > undo"],
    read_told: ["things", "things a", "things a b\na = b", "things a b c\na + b > c\n0 != c", "things\n0 = 0"],
    read_entry: ["strike 0", "strike -1", "strike 12", "a = b", "strike > 0", "strike + word = a"],
    read_book: ["things", "things a b\na > b\nstrike 0\nb > a", "things\n0 = 0\nstrike 0", "things a\na > 0"],
    read_worths: ["", "a 0", "a 3, b -2", "a -10, ab 100, b 7"],
}
WRONG = {
    read_sum: ["", " ", " 0", "0 ", "00", "-0", "0 + a", "a + 0", "a  + b", "a +b", "a+b", "a + b ", " a", "a\n",
               "b + a", "a + b + a", "a + a + a + a", "A", "a1", "abcdefghi", "a + ", " + a", "+", "a + + b", "a b",
               "a = b", "a ? b", "a,b", "(a)", "a\t+ b", "a +\nb", "1", "()"],
    read_pair: ["", "0", "a", "a ?", "? a", "a ? ", " ? a", " ? ", "a ?b", "a? b", "a ? b ? c", "a ? b ", " a ? b",
                "b + a ? c", "a ? b + a", "a = b", "a ? a + a + a + a", "a ? 00", "a  ? b", "a ? B", "a ? b\n",
                "0 ? -0"],
    read_telling: ["", "a", "a ? b", "a = ", " = b", "=", "a == b", "a = b = c", "a = b > c", "a > b = c", "a != b = c",
                   "a < b", "a >= b", "a ! = b", "a =b", "a= b", "a=b", "a  = b", "a = b ", " a = b", "a = b\n",
                   "\na = b", "a = b != c", "b + a = c", "a = b + a", "a = 00", "a = abcdefghi", "a = A", "a and b",
                   "alike a b", "a + a + a + a = b", "strike 0", "a > > b", "a = -0", "a != !"],
    read_entry: ["", "strike", "strike ", " strike 0", "strike  0", "strike 0 ", "strike 00", "strike -0", "strike +1",
                 "strike 01", "strike -01", "strike --1", "strike - 1", "strike 0x1", "strike a", "strike 1.0",
                 "strike 0\n", "strike 1 2", "Strike 0", "strike1", "strikes 1", "strike 1" + "0" * 40,
                 "strike -1" + "0" * 40, "strike 1_0", "strike -", "0", "a ? b", "undo", "strike 0 = 0", "strike =",
                 "strike True"],
    read_told: ["", "thing", "Things", " things", "things ", "things  a", "things a ", "things b a", "things a a",
                "things a, b", "things A", "things abcdefghi", "things a b c d e f g", "things 0", "things\n",
                "things a\n", "\nthings", "things a\n\na = a", "things a\na = b", "things\na = 0", "things a\nstrike 0",
                "things a\na ? a", "things a\na = a\n", "things a; a = a", "things a\r\na = a", "things a\n a = a",
                "things a\na = a ", "a = b", "things a b\nb + a = 0", "things\ta", "things a\nb"],
    read_book: ["", "things ", "things\n", "things b a", "things a a", "things a b c d e f g", "things a\nstrike 0",
                "things a\na = b", "things a\na > a", "things a\n0 > 0", "things a\na > 0\nstrike 1",
                "things a\nstrike -1", "things a\na > 0\nstrike -1", "things a\na > 0\n0 > a",
                "things a\na > 0\n0 > a\nstrike 0", "things a\n", "things a\na > 0\na = 0",
                "things a\na > 0\nstrike 00", "things a\na > 0\nstrike 0 ", "things a\na ? 0", "things a\nundo",
                "things a\na > 0\n", "things\n0 != 0", "things a\na > 0\nstrike 0\nstrike 0"],
    read_worths: [" ", "a", "a ", " 3", "3", "a  3", "a 3 ", " a 3", "a 3,", "a 3, ", ", a 3", "a 3,b 2", "a 3 , b 2",
                  "a 3, b", "b 1, a 2", "a 1, a 2", "a 1, a 1", "a -0", "a 00", "a 01", "a -01", "a +1", "a --1",
                  "a - 1", "a 1.0", "a b", "A 1", "abcdefghi 1", "a 1\n", "a 1, b 2, c 3, d 4, e 5, f 6, g 7",
                  "a 1; b 2", "a: 1", "a 1" + "0" * 40, "a -1" + "0" * 40, "a 1,  b 2", "a 1, b 1_0", "a 0x1", "a 1 2",
                  "0", "a -", "a 1e1"],
}
LETTERS = "ab AZ01-+=>!?,;\n_"


def spoiled_texts(chance, text):
    """Return texts that differ from a text in one or two places."""
    found = []
    for _ in range(60):
        other = text
        for _ in range(chance.choice([1, 1, 2])):
            at = chance.randint(0, len(other))
            end = at + chance.choice([0, 1, 1])
            other = other[:at] + chance.choice(["", *LETTERS]) + other[end:]
        found.append(other)
    return found


class Read(Case):
    def read(self, reader, text, thing):
        """Check that a text is read as a thing, shown as the same text, and that no other reading changes it."""
        found = reader(text)
        self.assertTrue(found == thing)
        self.assertIs(type(found), type(thing))
        if not isinstance(thing, (Told, Book)):
            self.same(self.answer(reader, text), thing)
        self.same(SHOWN[reader](found), text)

    def test_sums_and_pairs(self):
        some = every_sum(NAMED)
        for one in some:
            self.read(read_sum, show_sum(one), one)
        chance = Random(92)
        for _ in range(200):
            pair = chance.choice(some), chance.choice(some)
            self.read(read_pair, show_pair(pair), pair)
            telling = (chance.choice(WORDS), *pair)
            self.read(read_telling, show_telling(telling), telling)
            self.read(read_entry, show_entry(telling), telling)

    def test_plain_texts(self):
        self.read(read_sum, "0", ())
        self.read(read_sum, "abcdefgh + abcdefgh + abcdefgh", ("abcdefgh",) * 3)
        self.read(read_pair, "a + b ? c", (("a", "b"), ("c",)))
        self.read(read_telling, "a + b = c", ("alike", ("a", "b"), ("c",)))
        self.read(read_telling, "a + b > c", ("heavier", ("a", "b"), ("c",)))
        self.read(read_telling, "a + b != 0", ("unlike", ("a", "b"), ()))
        self.read(read_entry, "strike = a", ("alike", ("strike",), ("a",)))
        self.read(read_worths, "a 3, b -2", {"a": 3, "b": -2})
        self.read(read_worths, "", {})

    def test_strikes(self):
        for index in (0, 1, 11, -1, 10, FORTY, -FORTY, 10 ** 39):
            self.read(read_entry, show_entry(("strike", index)), ("strike", index))
        for index in (FORTY + 1, -FORTY - 1):
            self.refuses(NoText, read_entry, show_entry(("strike", index)))

    def test_tolds(self):
        for told in [EMPTY, BAD, BOTH, Told(SIX, []), Told((), [("unlike", (), ())]), Told(NAMED, [
                ("heavier", ("strike",), ("things",)), ("alike", ("undo", "undo"), ("word",))])] + (
                small_tolds(WORDS, 93) + great_tolds(WORDS, 93)):
            self.read(read_told, show_told(told), told)

    def test_books(self):
        for book in [Book(()), Book(SIX), led(THINGS, [SAME, MORE, ("strike", 0), BARE]), led(THINGS, [BARE] * 12),
                     led(THINGS, [MORE, ("strike", 0)] * 20), led(THINGS, WIDE[:6] + APART[:6])]:
            self.read(read_book, show_book(book), book)
            self.assertTrue(read_book(show_book(book)).told == book.told)
        book = led(THINGS, [SAME, MORE, BARE])
        book.undo()
        found = read_book(show_book(book))
        self.refuses(Nothing, found.redo)
        self.assertTrue(found == book)
        found.do(BARE)
        self.same([len(found), len(read_book(show_book(book)))], [3, 2])

    def test_books_that_could_not_be_led(self):
        head = show_book(Book(THINGS)) + "\n"
        for entries in ([BARE] * 13, WIDE, APART, [MORE, ("strike", 0)] * 20 + [MORE], [("strike", 0)],
                        [MORE, ("strike", -1)], [SAME, MORE, ("heavier", ("c",), ("a",))],
                        [BARE] * 12 + [("strike", 12)], [SAME, MORE, ("heavier", ("c",), ("a",)), ("strike", 0)],
                        [("alike", ("d",), ())], [MORE] * 3 + [("strike", 3)], WIDE + [("strike", 0)],
                        [BARE] * 13 + [("strike", 0)]):
            self.refuses(NoText, read_book, head + "\n".join(map(show_entry, entries)))
        self.assertTrue(read_told(head + "\n".join(map(show_entry, WIDE + APART))) == Told(THINGS, WIDE + APART))

    def test_worths(self):
        chance = Random(94)
        for many in range(7):
            for _ in range(12):
                most = chance.choice([1, 9, 10 ** 9, FORTY])
                worths = {name: chance.randint(-most, most) for name in sorted(chance.sample(NAMED, many))}
                self.read(read_worths, show_worths(worths), worths)
        self.read(read_worths, f"a {FORTY}, b {-FORTY}", {"a": FORTY, "b": -FORTY})
        for number in (FORTY + 1, -FORTY - 1, 10 ** 79):
            self.refuses(NoText, read_worths, f"a {number}")
            self.refuses(NoText, read_worths, f"a 1, b {number}")


class Refused(Case):
    def test_wrong_texts(self):
        for reader, texts in WRONG.items():
            for text in texts:
                with self.subTest(reader=reader.__name__, text=text):
                    self.refuses(NoText, reader, text)

    def test_any_value(self):
        things = [0, 1, (), ("a",), (("a",), ("b",)), ("strike", 0), {"a": 1}, EMPTY, Book(()), ["a = b"], b"0"]
        for reader in SHOWN:
            for thing in odd_values() + things:
                # no worths are shown as no letters at all
                if not (reader is read_worths and thing == ""):
                    self.refuses(NoText, reader, thing)

    def test_no_other_text_is_let_by(self):
        chance = Random(95)
        read, refused = 0, 0
        for reader, texts in RIGHT.items():
            for text in texts:
                for other in [text] + spoiled_texts(chance, text):
                    try:
                        found = reader(other)
                    except NoText:
                        refused += 1
                    else:
                        read += 1
                        self.assertEqual(SHOWN[reader](found), other)
        self.assertGreater(read, 100)
        self.assertGreater(refused, 500)
