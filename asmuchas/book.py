"""A book of tellings, which is led entry by entry, taken back and done again."""

from asmuchas.errors import NoEntry, Nothing, Refused, TooMany, Wrong
from asmuchas.orders import stands_all, word_of
from asmuchas.told import Told, is_telling_of
from asmuchas.weighing import against
from asmuchas.words import are_things, is_integer, telling_of, word_ahead

MOST_ENTRIES = 40
MOST_TELLINGS = 12
MOST_OF_A_WORD = 6


def is_strike(thing):
    """Return whether any value is an entry that strikes a telling, be there one with its index or not."""
    return word_ahead(thing) == "strike" and len(thing) == 2 and is_integer(thing[1])


def is_entry(things, thing):
    """Return whether any value is an entry: a telling of some things, or a strike."""
    return is_strike(thing) or is_telling_of(things, thing)


class Book:
    """A log of entries, and the tellings that stand behind it."""

    def __init__(self, things):
        if not are_things(things):
            raise Wrong(0)
        self._things = things
        self._log = ()
        self._undone = ()
        # the Told behind each number of entries
        self._tolds = (Told(things, []),)

    @property
    def things(self):
        """The ascending tuple of the things."""
        return self._things

    @property
    def told(self):
        """The Told as it is."""
        return self._tolds[-1]

    def __eq__(self, other):
        return isinstance(other, Book) and self._things == other._things and self._log == other._log

    def __len__(self):
        return len(self._log)

    def __iter__(self):
        return iter(self._log)

    def __setitem__(self, at, worth):
        self.do(telling_of(worth, at))

    def word(self, pair):
        """Return the word of a pair."""
        return word_of(self.told, pair)

    def log(self):
        """Return the list of the entries that were done."""
        return list(self._log)

    def _behind(self, entry):
        """Return the Told behind an entry, whether it stands or not."""
        if is_strike(entry):
            return self.told.without(entry[1])
        return self.told.with_telling(entry)

    def _add(self, entry, told):
        """Put an entry behind the others, with the Told behind it."""
        self._log = self._log + (entry,)
        self._tolds = self._tolds + (told,)

    def do(self, entry):
        """Do an entry: put a telling behind the others, or strike one."""
        if not is_entry(self._things, entry):
            raise Wrong(0)
        told = self._behind(entry)
        if len(self._log) >= MOST_ENTRIES:
            raise TooMany(MOST_ENTRIES)
        if len(told) > MOST_TELLINGS:
            raise TooMany(MOST_TELLINGS)
        if max(len(told.indexes("unlike")), len(told.indexes("heavier"))) > MOST_OF_A_WORD:
            raise TooMany(MOST_OF_A_WORD)
        if not stands_all(told):
            raise Refused(entry)
        self._add(entry, told)
        self._undone = ()

    def cause(self, entry):
        """Return a paper against the tellings behind an entry, or None if they stand."""
        return against(self._behind(entry))

    def undo(self):
        """Take back the last entry, and return it."""
        if not self._log:
            raise Nothing()
        entry = self._log[-1]
        self._log = self._log[:-1]
        self._tolds = self._tolds[:-1]
        self._undone = self._undone + (entry,)
        return entry

    def redo(self):
        """Do again the entry that was taken back last, and return it."""
        if not self._undone:
            raise Nothing()
        entry = self._undone[-1]
        self._add(entry, self._behind(entry))
        self._undone = self._undone[:-1]
        return entry

    def past(self, many):
        """Return the Told as it was behind the first many entries."""
        if not is_integer(many) or not 0 <= many <= len(self._log):
            raise NoEntry(many)
        return self._tolds[many]

    def copied(self):
        """Return an equal Book that goes on by itself, with what can be done again."""
        book = Book(self._things)
        book._log = self._log
        book._undone = self._undone
        book._tolds = self._tolds
        return book

    def trial(self, act):
        """Return what act returns of this Book, which is behind it as it was before."""
        log, undone, tolds = self._log, self._undone, self._tolds
        try:
            return act(self)
        finally:
            self._log, self._undone, self._tolds = log, undone, tolds
