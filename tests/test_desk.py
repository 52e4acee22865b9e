"""Desks [93], and what the guarantee [11] says of them."""

import re
from random import Random

from asmuchas.book import Book
from asmuchas.desk import Desk
from asmuchas.errors import MuchError, NoCommand, NoEntry, Nothing, NoTelling, Refused, TooMany, Wrong
from asmuchas.freest import free
from asmuchas.notation import show_book, show_entry, show_pair, show_told, show_worths
from asmuchas.orders import some_worths, word_of
from asmuchas.readers import read_entry, read_worths
from asmuchas.told import Told
from asmuchas.weighing import is_against, is_paper, paper
from tests.helpers import SIX, Case, every_sum, fit, odd_values
from tests.test_book import APART, BARE, MORE, OTHER, SAME, THINGS, WIDE, led
from tests.test_notation import NAMED

LINES = ["a + a = b + c", "b > a", "word a ? c", "cause b > c", "strike 0", "word a ? c", "undo", "free"]


def told_to(things, lines):
    """Return a Desk to which some lines were said."""
    desk = Desk(things)
    for line in lines:
        desk.say(line)
    return desk


def plain_paper(found):
    """Return the text of a paper, worked out here."""
    texts = []
    for part in found:
        if isinstance(part, list):
            texts.append(" ".join(map(str, part)) or "nothing")
        else:
            texts.append(show_worths(part) if isinstance(part, dict) else f"{part}")
    return "; ".join(texts)


class Made(Case):
    def test_wrong_things(self):
        for things in odd_values() + [SIX + ("g",), ["a"], "a", 1, ("b", "a"), Book(())]:
            self.assertIs(self.refuses(Wrong, Desk, things).place, 0)

    def test_its_book(self):
        for things in ((), ("a",), SIX):
            self.assertTrue(Desk(things).book() == Book(things))
        desk = told_to(THINGS, ["b > a", "a = c", "undo"])
        book = desk.book()
        self.assertTrue(book == led(THINGS, [MORE]))
        self.assertIsNot(desk.book(), book)
        self.same(book.redo(), ("alike", ("a",), ("c",)))
        book.do(("strike", 0))
        # neither knows of the other
        self.same([show_book(desk.book()), desk.say("redo")], ["things a b c\nb > a", "a = c"])
        self.same(len(book), 3)


class Said(Case):
    def say(self, things, lines, answers):
        """Check the answers to some lines, said in a row, and return the Desk."""
        desk = Desk(things)
        self.same([desk.say(line) for line in lines], answers)
        return desk

    def test_entries(self):
        desk = self.say(THINGS, ["a + a = b + c", "b > a", "a != c", "strike 0", "strike 1", "0 = 0"],
                        ["1 told", "2 told", "3 told", "2 told", "1 told", "2 told"])
        self.assertTrue(desk.book() == led(THINGS, [SAME, MORE, OTHER, ("strike", 0), ("strike", 1), BARE]))

    def test_undo_and_redo(self):
        self.say(THINGS, ["b > a", "strike 0", "undo", "undo", "redo", "a = c", "undo", "redo"],
                 ["1 told", "0 told", "strike 0", "b > a", "b > a", "2 told", "a = c", "a = c"])
        desk = Desk(THINGS)
        self.refuses(Nothing, desk.say, "undo")
        self.refuses(Nothing, desk.say, "redo")
        desk.say("b > a")
        desk.say("undo")
        desk.say("a > b")
        self.refuses(Nothing, desk.say, "redo")

    def test_words(self):
        self.say(THINGS, ["word a ? b", "a + a = b + c", "b > a", "word a ? b", "word b ? c", "word b + c ? a + a",
                          "word a ? 0", "undo", "b != c", "word a ? b", "word 0 ? 0"],
                 ["open", "1 told", "2 told", "lighter", "heavier", "alike", "open", "b > a", "2 told", "unlike",
                 "alike"])

    def test_reasons(self):
        self.say((), ["why 0 ? 0", "0 = 0"], ["alike; 1; nothing", "1 told"])
        self.say(("a",), ["why a ? a", "a > 0", "why a ? 0", "why 0 ? a"],
                 ["alike; 1; nothing", "1 told", "heavier; 1; 1", "lighter; -1; 1"])
        desk = told_to(THINGS, ["a + a = b + c", "b > a", "b + b != c + c"])
        told = desk.book().told
        words = set()
        for pair in [(("a",), ("c",)), (("c",), ("a",)), (("b", "c"), ("a", "a")), (("a",), ()), ((), ())]:
            answer = desk.say(f"why {show_pair(pair)}")
            self.same(answer, plain_paper(paper(told, pair)))
            self.same(answer.split("; ")[0], word_of(told, pair))
            words.add(word_of(told, pair))
        desk.say("strike 1")
        told = desk.book().told
        word, many, numbers, less, more = desk.say("why a ? b").split("; ")
        found = word, int(many), [int(number) for number in numbers.split(" ")], read_worths(less), read_worths(more)
        self.same([word, is_paper(told, (("a",), ("b",)), found)], ["unlike", True])
        word, *worths = desk.say("why a ? b + b").split("; ")
        found = word, *map(read_worths, worths)
        self.same([word, is_paper(told, (("a",), ("b", "b")), found)], ["open", True])
        self.assertEqual(words, {"heavier", "lighter", "alike", "open"})

    def test_causes(self):
        desk = told_to(THINGS, ["a + a = b + c", "b > a"])
        told = desk.book().told
        for line in ("cause b > c", "cause strike 0", "cause strike 1", "cause 0 = 0"):
            self.same(desk.say(line), "fits")
        for text in ("c > a", "a != a", "b = c", "0 > 0"):
            numbers = [int(number) for number in desk.say(f"cause {text}").split(" ")]
            self.same(is_against(told.with_telling(read_entry(text)), numbers), True)
        self.same([Desk(()).say("cause 0 != 0").lstrip("-"), len(desk.book())], ["1", 2])
        self.assertEqual(self.refuses(NoTelling, desk.say, "cause strike 2").index, 2)
        self.assertEqual(self.refuses(NoTelling, desk.say, "cause strike -1").index, -1)

    def test_worths_and_free_ones(self):
        desk = Desk(THINGS)
        for line in ("0 = 0", "a + a = b + c", "b > a", "a != c"):
            desk.say(line)
            told = desk.book().told
            self.same(desk.say("some"), show_worths(some_worths(told)))
            self.assertTrue(fit(told, read_worths(desk.say("some"))))
            self.same(desk.say("free"), str(free(told)))
        self.same([Desk(()).say("some"), Desk(()).say("free"), Desk(SIX).say("free"), desk.say("free")],
                  ["", "0", "6", "2"])

    def test_told_and_past(self):
        desk = told_to(THINGS, ["a + a = b + c", "b > a", "strike 0"])
        self.same([desk.say(line) for line in ("told", "past 0", "past 1", "past 2", "past 3")], [
            "things a b c; b > a", "things a b c", "things a b c; a + a = b + c", "things a b c; a + a = b + c; b > a",
            "things a b c; b > a"])
        self.same([Desk(()).say("told"), Desk(()).say("past 0")], ["things", "things"])
        for many in (4, -1, 10 ** 39, -10 ** 39):
            self.assertEqual(self.refuses(NoEntry, desk.say, f"past {many}").many, many)

    def test_errors_of_entries(self):
        desk = told_to(THINGS, ["a + a = b + c", "b > a", "0 = 0", "undo"])
        before = show_book(desk.book())
        self.same(self.refuses(Refused, desk.say, "c > a").telling, ("heavier", ("c",), ("a",)))
        self.same(self.refuses(NoTelling, desk.say, "strike 2").index, 2)
        self.same(self.refuses(NoTelling, desk.say, "strike -1").index, -1)
        self.same([show_book(desk.book()), desk.say("redo")], [before, "0 = 0"])
        for entries, line, limit in [
            ([MORE, ("strike", 0)] * 20, "b > a", 40), ([BARE] * 12, "0 = 0", 12), (WIDE[:6], "b > a", 6),
            (APART[:6], "a != b", 6),
        ]:
            full = told_to(THINGS, map(show_entry, entries))
            self.same(self.refuses(TooMany, full.say, line).limit, limit)
            self.assertTrue(full.book() == led(THINGS, entries))

    def test_names_that_lead_a_line(self):
        lines = ["word > past", "why = strike", "things + undo = things + word", "strike > 0", "strike 3", "undo != 0",
                 "past > why", "cause strike 0", "word word ? past", "word things ? undo", "past 1",
                 "why why ? strike", "undo", "word undo ? word", "redo", "past = past"]
        answers = ["1 told", "2 told", "3 told", "4 told", "3 told", "4 told", "5 told", "fits", "heavier", "open",
                   "things past strike things undo why word; word > past", "alike; 1; 0 1 0 0 0", "past > why", "alike",
                   "past > why", "6 told"]
        desk = self.say(NAMED, lines[:7], answers[:7])
        numbers = [int(number) for number in desk.say("cause past = why").split(" ")]
        behind = desk.book().told.with_telling(("alike", ("past",), ("why",)))
        self.same(is_against(behind, numbers), True)
        self.same([desk.say(line) for line in lines[7:]], answers[7:])
        things = ("cause", "free", "redo", "some", "told", "undo")
        self.say(things, ["cause = free", "cause cause = free", "redo > some", "free", "told",
                          "cause + free = redo + redo", "undo", "word cause ? free", "undo = undo", "redo = redo"],
                 ["1 told", "fits", "2 told", "5", "things cause free redo some told undo; cause = free; redo > some",
                  "3 told", "cause + free = redo + redo", "alike", "3 told", "4 told"])


class Refusals(Case):
    def test_lines_that_tell_nothing(self):
        desk = told_to(THINGS, ["b > a", "a = c", "undo"])
        for line in [
            "", " ", "b >a", "b > a ", " b > a", "b > a\n", "b < a", "a", "0", "a + b", "a ? b", "b + a = c", "d > a",
            "a = d", "cause d > a", "cause", "cause ", "cause a", "cause a ? b", "cause  b > a", "cause undo",
            "cause strike", "causes b > a", "cause cause b > a", "cause strike 00", "word", "word ", "word a",
            "word a ? d", "word d ? a", "word a = b", "word  a ? b", "word a ? b ", "word b + a ? c", "Word a ? b",
            "word a ? b ? c", "words a ? b", "why", "why a", "why a ? d", "why a > b", "why  a ? b", "whya ? b",
            "undo ", " undo", "Undo", "undo 1", "undo undo", "redo ", "redo 1", "undo\n", "some ", "some 1", "free ",
            "free a", "told ", "told 1", "past", "past ", "past a", "past  1", "past 01", "past -0", "past +1",
            "past 1 ", "past 1.0", "past 1" + "0" * 40, "past -1" + "0" * 40, "past 0x1", "past 1 2", "strike",
            "strike a", "strike 01", "strike -0", "strike  0", "strike 0 ", "strike 1" + "0" * 40, "things a b c",
            "log", "do b > a", "book", "a" * 20000, "word " * 4000, "strike 0; strike 0", "b > a; b > a",
            "a + a + a + a = b",
        ]:
            with self.subTest(line):
                self.refuses(NoCommand, desk.say, line)
        self.same([show_book(desk.book()), desk.say("redo")], ["things a b c\nb > a", "a = c"])

    def test_any_value(self):
        desk = told_to(THINGS, ["b > a"])
        for line in odd_values() + [MORE, ("strike", 0), ["undo"], b"undo", b"b > a", 0, {"undo": 1}, ("undo",)]:
            self.refuses(NoCommand, desk.say, line)
        self.same(show_book(desk.book()), "things a b c\nb > a")


class WholeDesks(Case):
    def test_asking_changes_nothing(self):
        desk = told_to(THINGS, ["a + a = b + c", "b > a", "a > 0", "undo"])
        before = show_book(desk.book())
        lines = ["word a ? b", "why a ? b", "why a ? 0", "cause a = b", "cause strike 0", "some", "free", "past 1"]
        answers = [desk.say(line) for line in lines]
        self.same([desk.say(line) for line in lines], answers)
        self.same([show_book(desk.book()), desk.say("redo")], [before, "a > 0"])

    def test_going_on_at_random(self):
        chance = Random(93)
        for things in [SIX[:many] for many in (0, 1, 2, 3, 6)] * 4:
            desk, book = Desk(things), Book(things)
            some = every_sum(things)[:12]
            for _ in range(30):
                one, other = chance.choice(some), chance.choice(some)
                entry = chance.choice([("strike", chance.randint(0, 3)), ("alike", one, other), ("heavier", one, other),
                                       ("unlike", one, other)])
                text, pair = show_entry(entry), show_pair((one, other))
                line, act = chance.choice([
                    (text, lambda: (book.do(entry), f"{len(book.told)} told")[1]),
                    ("undo", lambda: show_entry(book.undo())), ("redo", lambda: show_entry(book.redo())),
                    (f"word {pair}", lambda: book.word((one, other))),
                    (f"why {pair}", lambda: plain_paper(paper(book.told, (one, other)))),
                    (f"cause {text}", lambda: " ".join(map(str, book.cause(entry) or ["fits"]))),
                    ("some", lambda: show_worths(some_worths(book.told))), ("free", lambda: str(free(book.told))),
                    ("told", lambda: show_told(book.told).replace("\n", "; ")),
                    ("past 2", lambda: show_told(book.past(2)).replace("\n", "; ")),
                ])
                try:
                    wanted = act()
                except MuchError as error:
                    raised = self.refuses(type(error), desk.say, line)
                    self.same(vars(raised), vars(error))
                else:
                    self.same(desk.say(line), wanted)
                self.assertTrue(desk.book() == book)

    def test_other_names(self):
        names = {"a": "h", "b": "past", "c": "x"}

        def other(text):
            return re.sub(r"\b[abc]\b", lambda match: names[match[0]], text)

        desk, renamed = Desk(THINGS), Desk(tuple(names.values()))
        for line in LINES + ["told", "past 2", "cause c > a", "word b ? a", "a > 0", "why a ? 0", "undo"]:
            self.same(renamed.say(other(line)), other(desk.say(line)))
        self.assertTrue(renamed.book().told == Told(tuple(names.values()), renamed.book().told.tellings()))
