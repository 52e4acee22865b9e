"""Books [90], and what the guarantee [11] says of them."""

from random import Random
from unittest.mock import ANY

from asmuchas.book import Book, is_entry
from asmuchas.errors import NoEntry, Nothing, NoTelling, Refused, TooMany, Wrong
from asmuchas.orders import some_worths, word_of
from asmuchas.told import Told, renamed
from asmuchas.weighing import against, is_against
from asmuchas.words import telling_of
from tests.helpers import (
    LONG, SIX, Case, every_sum, fit, flat_tellings, flat_worths, odd_values, with_truths,
)

THINGS = ("a", "b", "c")
SAME, MORE, OTHER = ("alike", ("a", "a"), ("b", "c")), ("heavier", ("b",), ("a",)), ("unlike", ("a",), ("c",))
AGAIN, NEVER, BARE = ("heavier", ("c",), ("a",)), ("unlike", ("a",), ("a",)), ("alike", (), ())
WIDE = [("heavier", ("b",) * many, ("a",) * many) for many in (1, 2, 3)] + [
    ("heavier", ("b",), ("a", "a")), ("heavier", ("b", "b"), ("a", "a", "a")), ("heavier", ("b", "b", "b"), ("a",)),
    ("heavier", ("b", "b"), ("a",))]
APART = [("unlike", one, other) for _, one, other in WIDE]


class Stopped(Exception):
    """An error that no file of the package knows."""


def led(things, entries):
    """Return a Book with some entries done."""
    book = Book(things)
    for entry in entries:
        book.do(entry)
    return book


def tellings_behind(entries):
    """Return the tellings that are left behind entries, worked out here."""
    told = []
    for entry in entries:
        if entry[0] == "strike":
            del told[entry[1]]
        else:
            told.append(entry)
    return told


def how(book):
    """Return all that a Book shows of itself, with what can be done again, asked of a copy."""
    copy, again = book.copied(), []
    while True:
        try:
            again.append(copy.redo())
        except Nothing:
            break
    past = [book.past(many).tellings() for many in range(len(book) + 1)]
    return book.things, book.log(), book.told.tellings(), past, again


class Entries(Case):
    def test_is_entry(self):
        for things, thing, wanted in [
            (THINGS, SAME, True), (("a", "b"), SAME, False), ((), BARE, True), ((), ("strike", 0), True),
            (THINGS, ("strike", -1), True), (THINGS, ("strike", LONG), True), (THINGS, ("strike", True), False),
            (THINGS, ("strike", False), False), (THINGS, ["strike", 0], False), (THINGS, ("strike",), False),
            (THINGS, ("strike", 0, 0), False), (THINGS, ("strike", "0"), False), (THINGS, ("strike", None), False),
            (THINGS, ("strike", ("a",), ("b",)), False), (THINGS, ("strikes", 0), False),
            (THINGS, (0, "strike"), False),
            (THINGS, ("lighter", ("a",), ("b",)), False), (THINGS, ("alike", ("a",), ("d",)), False),
            (THINGS, ("alike", ("b", "a"), ()), False), (("strike",), ("alike", ("strike",), ()), True),
            (THINGS, "strike 0", False), (THINGS, (b"strike", 0), False), (THINGS, ("strike", [0]), False),
        ]:
            self.same(self.answer(is_entry, things, thing), wanted)
        for thing in odd_values() + [("strike", thing) for thing in odd_values()]:
            self.assertIs(is_entry(("a", "b", "abc"), thing), False)


class Made(Case):
    def test_wrong_things(self):
        for things in odd_values() + [SIX + ("g",), ["a"], "a", 1, ("b", "a"), ("a", "a"), Book(()), Told((), [])]:
            self.assertIs(self.refuses(Wrong, Book, things).place, 0)

    def test_a_book_begins_without_tellings(self):
        for things in ((), ("a",), THINGS, SIX):
            book = Book(things)
            self.same([book.things, len(book), self.answer(book.log), list(book)], [things, 0, [], []])
            self.assertTrue(book.told == Told(things, []) and book.past(0) == Told(things, []))
            self.refuses(Nothing, book.undo)
            self.refuses(Nothing, book.redo)
        self.assertTrue(isinstance(Book.things, property) and isinstance(Book.told, property))

    def test_equality(self):
        one = led(THINGS, [SAME, MORE])
        self.assertIs(one == led(THINGS, [SAME, MORE]), True)
        self.assertIs(one != led(THINGS, [SAME, MORE]), False)
        others = [led(THINGS, [MORE, SAME]), led(THINGS, [SAME]), Book(THINGS), led(SIX, [SAME, MORE]),
                  led(THINGS, [SAME, MORE, BARE, ("strike", 2)]), one.told, [SAME, MORE], (THINGS, [SAME, MORE])]
        for other in others + odd_values():
            self.assertIs(one == other, False)
            self.assertIs(other == one, False)
            self.assertIs(one != other, True)
        self.assertIs(Book(()) == Told((), []), False)
        again = led(THINGS, [SAME, MORE, BARE])
        again.undo()
        # what can be done again is no part of it
        self.assertIs(one == again, True)


class Done(Case):
    def test_entries(self):
        book = Book(THINGS)
        for many, entry in enumerate([SAME, MORE, ("strike", 0), OTHER, BARE, ("strike", 2), ("strike", 0), SAME], 1):
            self.assertIsNone(book.do(entry))
            self.same([len(book), book.log()[-1]], [many, entry])
        self.same(self.answer(book.log), [SAME, MORE, ("strike", 0), OTHER, BARE, ("strike", 2), ("strike", 0), SAME])
        self.same([list(book), book.told.tellings()], [book.log(), [OTHER, SAME]])
        self.same([book.past(many).tellings() for many in range(9)], [
            [], [SAME], [SAME, MORE], [MORE], [MORE, OTHER], [MORE, OTHER, BARE], [MORE, OTHER], [OTHER],
            [OTHER, SAME]])
        self.assertIs(type(book.told), Told)

    def test_strikes_at_both_ends_and_beyond(self):
        book = led(THINGS, [SAME, MORE, OTHER])
        before = how(book)
        for index in (3, 4, -1, -3, LONG, -LONG):
            self.assertIs(self.refuses(NoTelling, book.do, ("strike", index)).index, index)
            self.assertIs(self.refuses(NoTelling, book.cause, ("strike", index)).index, index)
            self.same(how(book), before)
        book.do(("strike", 2))
        book.do(("strike", 0))
        self.same(book.told.tellings(), [MORE])
        self.assertEqual(self.refuses(NoTelling, book.do, ("strike", 1)).index, 1)
        book.do(("strike", 0))
        self.assertEqual(self.refuses(NoTelling, book.do, ("strike", 0)).index, 0)
        self.same([book.told.tellings(), len(book)], [[], 6])

    def test_wrong_entries(self):
        book = led(THINGS, [SAME, MORE])
        book.undo()
        before = how(book)
        things = [("strike", True), ("strike", False), ["strike", 0], ("strike", "0"), ("strike", 0, 1), list(MORE),
                  ("alike", ("d",), ()), ("lighter", ("a",), ("b",)), "strike 0", book, ("open", ("a",), ("b",)),
                  (MORE,), "undo"]
        for thing in odd_values() + things:
            self.assertIs(self.refuses(Wrong, book.do, thing).place, 0)
        self.same(how(book), before)

    def test_refused(self):
        book = led(THINGS, [SAME, MORE])
        book.do(BARE)
        book.undo()
        before = how(book)
        for entry in [AGAIN, NEVER, ("alike", ("b",), ("c",)), ("heavier", ("a",), ("b",)), ("heavier", (), ()),
                      ("unlike", ("b", "c"), ("a", "a"))]:
            self.assertIs(self.refuses(Refused, book.do, entry).telling, entry)
            self.same(how(book), before)
        self.same([book.redo(), len(book)], [BARE, 3])
        book.do(("strike", 0))
        book.do(AGAIN)
        self.same(book.told.tellings(), [MORE, BARE, AGAIN])

    def test_forty_entries(self):
        book = led(THINGS, [MORE, ("strike", 0)] * 20)
        before = how(book)
        self.same([len(book), book.told.tellings()], [40, []])
        for entry in (SAME, NEVER, BARE):
            self.assertEqual(self.refuses(TooMany, book.do, entry).limit, 40)
        self.assertEqual(self.refuses(NoTelling, book.do, ("strike", 0)).index, 0)
        self.assertIs(self.refuses(Wrong, book.do, ("strike", None)).place, 0)
        self.same(how(book), before)
        book.undo()
        book.do(("strike", 0))
        self.same([len(book), book.past(39).tellings()], [40, [MORE]])
        book.undo()
        book.do(SAME)
        self.assertEqual(self.refuses(TooMany, book.do, ("strike", 1)).limit, 40)
        self.same([book.undo(), book.redo(), len(book)], [SAME, SAME, 40])

    def test_twelve_tellings(self):
        book = led(THINGS, [BARE] * 6 + WIDE[:6])
        before = how(book)
        for entry in (SAME, BARE, NEVER, WIDE[0], ("heavier", ("a",), ("b",))):
            self.assertEqual(self.refuses(TooMany, book.do, entry).limit, 12)
        self.same(how(book), before)
        book.do(("strike", 11))
        book.do(SAME)
        self.same([len(book.told), len(book)], [12, 14])

    def test_six_of_a_word(self):
        for some, other in ((WIDE, APART), (APART, WIDE)):
            book = led(THINGS, some[:6])
            before = how(book)
            for entry in (some[6], (some[0][0], ("a",), ("a",)), some[0]):
                self.assertEqual(self.refuses(TooMany, book.do, entry).limit, 6)
            self.same(how(book), before)
            book.do(("strike", 3))
            book.do(some[6])
            for entry in other[:6]:
                book.do(entry)
            self.same([len(book.told), len(book)], [12, 14])
            self.assertEqual(self.refuses(TooMany, book.do, some[0]).limit, 12)
            self.assertEqual(self.refuses(TooMany, book.do, other[6]).limit, 12)
        self.same(len(led(THINGS, [BARE] * 12).told), 12)

    def test_errors_in_their_order(self):
        many = led(THINGS, WIDE[:6] + APART[:6] + [("strike", 11), APART[5]] * 14)
        self.same([len(many), len(many.told)], [40, 12])
        self.assertEqual(self.refuses(Wrong, many.do, ("heavier", ("a", "d"), ())).place, 0)
        self.assertEqual(self.refuses(NoTelling, many.do, ("strike", 12)).index, 12)
        self.assertEqual(self.refuses(TooMany, many.do, ("heavier", ("a",), ("b",))).limit, 40)
        many.undo()
        many.undo()
        self.same([len(many), len(many.told)], [38, 12])
        self.assertEqual(self.refuses(TooMany, many.do, ("heavier", ("a",), ("b",))).limit, 12)
        many.do(("strike", 11))
        self.assertEqual(self.refuses(TooMany, many.do, ("heavier", ("a",), ("b",))).limit, 6)
        self.assertEqual(self.refuses(Refused, many.do, NEVER).telling, NEVER)
        many.do(APART[6])
        self.same([len(many), len(many.told)], [40, 12])

    def test_setting_of_words(self):
        book = Book(THINGS)
        book[("a", "a"), ("b", "c")] = "alike"
        book[("a",), ("b",)] = "lighter"
        book[("b",), ("a",)] = "heavier"
        book[("a",), ("c",)] = "unlike"
        book[(), ()] = "alike"
        self.same(book.log(), [SAME, MORE, MORE, OTHER, BARE])
        before = how(book)
        # the last one is an object that says of itself to be equal to everything
        for word in odd_values() + ["open", "strike", "Alike", "lighter ", 0, 1, ("lighter",), MORE, book, ANY]:
            self.assertIs(self.refuses(Wrong, book.__setitem__, (("a",), ("b",)), word).place, 0)
        self.same(how(book), before)
        error = self.refuses(Refused, book.__setitem__, (("a",), ("c",)), "lighter")
        self.same(error.telling, ("heavier", ("c",), ("a",)))
        self.same(how(book), before)
        for _ in range(4):
            book[("a",), ("b",)] = "lighter"
        self.assertEqual(self.refuses(TooMany, book.__setitem__, (("a",), ("b",)), "lighter").limit, 6)
        self.assertNotIn("__getitem__", vars(Book))

    def test_telling_of(self):
        pair = ("a",), ("b", "c")
        for word, wanted in [(word, (word, *pair)) for word in ("alike", "heavier", "unlike", "open", None, ANY)] + [
                ("lighter", ("heavier", *pair[::-1]))]:
            self.same(self.answer(telling_of, word, pair), wanted)

    def test_going_on_at_random(self):
        chance = Random(90)
        kinds = set()
        for things in [SIX[:many] for many in (0, 1, 2, 3)] * 6:
            book, done, undone = Book(things), [], []
            every = flat_tellings(things)
            for _ in range(45):
                kind = chance.choice(["do", "do", "do", "strike", "undo", "redo"])
                if kind in ("do", "strike"):
                    entry = chance.choice(every) if kind == "do" else ("strike", chance.randint(-1, len(book.told)))
                    wanted = self.error_of(things, done, entry)
                    if wanted is None:
                        self.assertIsNone(book.do(entry))
                        done, undone = done + [entry], []
                    else:
                        self.refuses(wanted, book.do, entry)
                    kinds.add(wanted)
                elif kind == "undo" and done:
                    undone = undone + [done[-1]]
                    self.same(book.undo(), done[-1])
                    done = done[:-1]
                elif kind == "redo" and undone:
                    self.same(book.redo(), undone[-1])
                    done, undone = done + [undone[-1]], undone[:-1]
                else:
                    self.refuses(Nothing, book.undo if kind == "undo" else book.redo)
                self.same(how(book), (things, done, tellings_behind(done), [
                    tellings_behind(done[:many]) for many in range(len(done) + 1)], undone[::-1]))
        self.assertEqual(kinds, {None, NoTelling, Refused, TooMany})

    def error_of(self, things, done, entry):
        """Return the class of the error that an entry raises behind others, or None."""
        told = tellings_behind(done)
        if entry[0] == "strike" and not 0 <= entry[1] < len(told):
            return NoTelling
        behind = tellings_behind([*done, entry])
        words = [telling[0] for telling in behind]
        if len(done) == 40 or len(behind) > 12 or max(words.count("unlike"), words.count("heavier")) > 6:
            return TooMany
        return None if flat_worths(Told(things, behind)) else Refused


class Asked(Case):
    def test_word(self):
        book = led(THINGS, [SAME, MORE])
        for pair in [(("a",), ("c",)), (("c",), ("a",)), (("b", "c"), ("a", "a")), (("a",), ()), ((), ())]:
            self.same(self.answer(book.word, pair), word_of(Told(THINGS, [SAME, MORE]), pair))
        book.undo()
        book.do(OTHER)
        self.same([book.word((("a",), ("c",))), book.word((("b",), ("a",))), Book(()).word(((), ()))],
                  ["unlike", "unlike", "alike"])

    def test_cause(self):
        book = led(THINGS, [SAME, MORE])
        before = how(book)
        for entry in (BARE, OTHER, ("strike", 0), ("strike", 1), ("heavier", ("a",), ("c",))):
            self.same(self.answer(book.cause, entry), None)
        for entry in (AGAIN, NEVER, ("alike", ("b",), ("c",)), ("heavier", (), ())):
            found = self.answer(book.cause, entry)
            behind = Told(THINGS, [SAME, MORE, entry])
            self.same(found, against(behind))
            self.same(is_against(behind, found), True)
        self.same(how(book), before)
        full = led(THINGS, [BARE] * 5 + [SAME] + WIDE[:6])
        self.same(self.answer(full.cause, BARE), None)
        self.same(is_against(full.told.with_telling(AGAIN), self.answer(full.cause, AGAIN)), True)
        forty = led(THINGS, [MORE, ("strike", 0)] * 20)
        self.same(self.answer(forty.cause, MORE), None)
        self.assertEqual(self.refuses(NoTelling, forty.cause, ("strike", 0)).index, 0)

    def test_an_entry_is_refused_just_if_something_stands_against_it(self):
        chance = Random(96)
        some = every_sum(SIX)
        refused = 0
        for _ in range(20):
            book = Book(SIX)
            for word in chance.sample(["alike", "heavier", "unlike"] * 4, 12):
                entry = word, chance.choice(some), chance.choice(some)
                behind = book.told.with_telling(entry)
                found = book.cause(entry)
                if found is None:
                    book.do(entry)
                    self.assertTrue(fit(behind, some_worths(book.told)))
                else:
                    self.same(is_against(behind, found), True)
                    self.refuses(Refused, book.do, entry)
                    refused += 1
        self.assertGreater(refused, 10)

    def test_past(self):
        book = led(THINGS, [SAME, MORE])
        for many in odd_values() + [-1, 3, LONG, -LONG, "1", (1,), [0], SAME, book, True, False]:
            self.assertIs(self.refuses(NoEntry, book.past, many).many, many)
        self.assertTrue(book.past(0) == Told(THINGS, []) and book.past(1) == Told(THINGS, [SAME]))
        self.assertTrue(book.past(2) == book.told == Told(THINGS, [SAME, MORE]))
        book.undo()
        self.assertEqual(self.refuses(NoEntry, book.past, 2).many, 2)
        self.assertTrue(Book(()).past(0) == Told((), []))

    def test_what_was_returned_may_be_changed(self):
        book = led(THINGS, [SAME, MORE])
        book.log().clear()
        book.told.tellings().clear()
        self.same([book.log(), book.told.tellings(), len(book)], [[SAME, MORE], [SAME, MORE], 2])
        self.assertIsNot(book.log(), book.log())

    def test_iterating_is_over_the_entries_that_were_done(self):
        book = led(THINGS, [SAME, MORE])
        one, two = iter(book), iter(book)
        self.same([next(one), next(one), next(two)], [SAME, MORE, SAME])
        self.same([entry for entry in book], book.log())

    def test_a_told_that_was_returned_stays(self):
        book = led(THINGS, [SAME])
        told, past = book.told, book.past(0)
        book.do(MORE)
        self.same([told.tellings(), past.tellings()], [[SAME], []])

    def test_other_names(self):
        names = dict(zip(THINGS, ["h", "hh", "x"]))
        book = Book(THINGS)
        other = Book(("h", "hh", "x"))
        for entry in (SAME, MORE, OTHER, ("strike", 1), BARE):
            book.do(entry)
            other.do(entry if entry[0] == "strike" else renamed(Told(THINGS, [entry]), names)[0])
            self.assertTrue(other.told == renamed(book.told, names))


class TakenBack(Case):
    def test_to_both_ends(self):
        entries = [SAME, MORE, ("strike", 0), OTHER, ("strike", 1), BARE]
        book = led(THINGS, entries)
        for many in range(6, 0, -1):
            self.same(book.undo(), entries[many - 1])
            self.same([book.log(), book.told.tellings()], [entries[:many - 1], tellings_behind(entries[:many - 1])])
        before = how(book)
        self.refuses(Nothing, book.undo)
        self.same(how(book), before)
        for many in range(1, 7):
            self.same(book.redo(), entries[many - 1])
            self.same([book.log(), book.told.tellings()], [entries[:many], tellings_behind(entries[:many])])
        before = how(book)
        self.refuses(Nothing, book.redo)
        self.same(how(book), before)
        self.assertTrue(book == led(THINGS, entries))

    def test_a_new_entry_lets_nothing_be_done_again(self):
        book = led(THINGS, [SAME, MORE, BARE])
        book.undo()
        book.undo()
        # one that is not done lets all be done again
        self.refuses(Refused, book.do, NEVER)
        self.refuses(Wrong, book.do, None)
        self.refuses(NoTelling, book.do, ("strike", 1))
        self.same(book.redo(), MORE)
        book.do(OTHER)
        self.refuses(Nothing, book.redo)
        self.same([book.undo(), book.undo(), book.redo(), book.redo()], [OTHER, MORE, MORE, OTHER])
        self.same(book.log(), [SAME, MORE, OTHER])
        book.undo()
        book.do(("strike", 1))
        self.refuses(Nothing, book.redo)
        book.undo()
        book[("a",), ("c",)] = "unlike"
        self.refuses(Nothing, book.redo)

    def test_copied(self):
        book = led(THINGS, [SAME, MORE, BARE])
        book.undo()
        copy = book.copied()
        self.assertIs(type(copy), Book)
        self.assertIsNot(copy, book)
        self.assertTrue(copy == book)
        before = how(book)
        self.same(how(copy), before)
        copy.redo()
        copy.undo()
        copy.do(OTHER)
        self.same(how(book), before)
        behind = how(copy)
        self.same([book.redo(), book.undo(), book.undo()], [BARE, BARE, MORE])
        book.do(("strike", 0))
        self.same(how(copy), behind)
        self.assertTrue(copy == led(THINGS, [SAME, MORE, OTHER]))
        self.refuses(Nothing, copy.redo)


class Trials(Case):
    def setUp(self):
        self.book = led(THINGS, [SAME, MORE, BARE])
        self.book.undo()
        self.before = how(self.book)

    def changed(self, book):
        """Take back, do again and do, and return what is told then."""
        self.assertIs(book, self.book)
        book.redo()
        book.undo()
        book.undo()
        book.do(OTHER)
        book.do(("strike", 0))
        return book.told

    def test_what_act_returns(self):
        told = self.book.trial(self.changed)
        self.same(told.tellings(), [OTHER])
        self.same(how(self.book), self.before)
        self.same([self.book.trial(len), self.book.trial(lambda book: None), self.book.trial(Book.log)],
                  [2, None, [SAME, MORE]])
        result = []
        self.assertIs(self.book.trial(lambda book: result), result)
        self.same(how(self.book), self.before)

    def test_to_both_ends(self):
        def all_back(book):
            while len(book):
                book.undo()
            return book.told.tellings()

        self.same(self.book.trial(all_back), [])
        self.same(how(self.book), self.before)
        self.same(self.book.trial(Book.redo), BARE)
        self.same(how(self.book), self.before)
        self.same([self.book.redo(), self.book.log()], [BARE, [SAME, MORE, BARE]])

    def test_one_that_returns_the_book(self):
        def act(book):
            book.do(OTHER)
            return book

        self.assertIs(self.book.trial(act), self.book)
        self.same(how(self.book), self.before)
        copy = self.book.trial(lambda book: act(book).copied())
        self.same([copy.log(), self.book.log()], [[SAME, MORE, OTHER], [SAME, MORE]])

    def test_one_that_raises(self):
        def act(book):
            self.changed(book)
            raise Stopped("a")

        with self.assertRaises(Stopped):
            self.book.trial(act)
        self.same(how(self.book), self.before)
        error = self.refuses(Refused, self.book.trial, lambda book: (book.undo(), book.do(NEVER)))
        self.assertIs(error.telling, NEVER)
        self.refuses(Nothing, self.book.trial, lambda book: [book.redo(), book.redo()])
        self.same(how(self.book), self.before)

    def test_a_trial_in_a_trial(self):
        def act(book):
            book.do(OTHER)
            within = how(book)
            told = book.trial(self.changed_within)
            self.same(how(book), within)
            self.refuses(NoTelling, book.trial, lambda own: own.do(("strike", 9)))
            self.same(how(book), within)
            return told, book.log()

        self.same(self.book.trial(act), ([MORE], [SAME, MORE, OTHER]))
        self.same(how(self.book), self.before)

    def changed_within(self, book):
        """Strike all but one telling, and return what is told then."""
        book.do(("strike", 2))
        book.do(("strike", 0))
        return book.told.tellings()


class AnyValue(Case):
    def test_truths_for_integers(self):
        book = led(THINGS, [SAME, MORE])
        for entry in with_truths(("strike", 1)) + with_truths(("strike", 0)):
            self.assertIs(self.refuses(Wrong, book.do, entry).place, 0)
            self.assertIs(is_entry(THINGS, entry), False)
