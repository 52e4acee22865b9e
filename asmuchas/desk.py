"""A desk: a book that is led by lines, each of which gets an answer."""

from asmuchas.book import Book, is_entry
from asmuchas.errors import NoCommand, NoText
from asmuchas.freest import free
from asmuchas.notation import show_entry, show_told, show_worths
from asmuchas.orders import some_worths
from asmuchas.readers import read_entry, read_integer, read_pair
from asmuchas.told import is_telling_of
from asmuchas.weighing import paper


def _entry_in(things, text):
    """Return the entry of things of which a text tells, or None if there is none."""
    try:
        entry = read_entry(text)
    except NoText:
        return None
    return entry if is_entry(things, entry) else None


def _pair_in(things, text):
    """Return the pair of things of which a text tells."""
    try:
        pair = read_pair(text)
    except NoText:
        raise NoCommand()
    if not is_telling_of(things, ("alike", *pair)):
        raise NoCommand()
    return pair


def _integer_in(text):
    """Return the integer of which a text tells."""
    try:
        return read_integer(text)
    except NoText:
        raise NoCommand()


def _shown_numbers(numbers):
    """Return integers with one blank between two."""
    return " ".join([str(number) for number in numbers])


def _shown_part(part):
    """Return a part of a paper as a text."""
    if isinstance(part, dict):
        return show_worths(part)
    if isinstance(part, list):
        return _shown_numbers(part) if part else "nothing"
    return str(part)


def _shown_told(told):
    """Return the text of a Told in one line."""
    return show_told(told).replace("\n", "; ")


def _undo(book):
    """Take back the last entry, and answer with it."""
    return show_entry(book.undo())


def _redo(book):
    """Do again the entry that was taken back last, and answer with it."""
    return show_entry(book.redo())


def _some(book):
    """Answer with worths that fit."""
    return show_worths(some_worths(book.told))


def _free(book):
    """Answer with how many free worths are left."""
    return str(free(book.told))


def _told(book):
    """Answer with the Told as it is."""
    return _shown_told(book.told)


def _word(book, text):
    """Answer with the word of a pair."""
    return book.word(_pair_in(book.things, text))


def _why(book, text):
    """Answer with a paper of a pair."""
    found = paper(book.told, _pair_in(book.things, text))
    return "; ".join([_shown_part(part) for part in found])


def _cause(book, text):
    """Answer with what stands against an entry."""
    entry = _entry_in(book.things, text)
    if entry is None:
        raise NoCommand()
    found = book.cause(entry)
    return "fits" if found is None else _shown_numbers(found)


def _past(book, text):
    """Answer with the Told as it was behind some entries."""
    return _shown_told(book.past(_integer_in(text)))


# lines of one word, and words with something behind them
BARE = {"undo": _undo, "redo": _redo, "some": _some, "free": _free, "told": _told}
LEADING = {"word": _word, "why": _why, "cause": _cause, "past": _past}


class Desk:
    """A Book of its own, which does what lines tell."""

    def __init__(self, things):
        self._book = Book(things)

    def book(self):
        """Return a copy of the Book."""
        return self._book.copied()

    def say(self, line):
        """Do what a line tells, and return the answer."""
        if not isinstance(line, str):
            raise NoCommand()
        # an entry comes first: things may be called as the words are that lead a line
        entry = _entry_in(self._book.things, line)
        if entry is not None:
            self._book.do(entry)
            return f"{len(self._book.told)} told"
        if line in BARE:
            action = BARE[line]
            return action(self._book)
        head, _, rest = line.partition(" ")
        if head not in LEADING:
            raise NoCommand()
        action = LEADING[head]
        return action(self._book, rest)
