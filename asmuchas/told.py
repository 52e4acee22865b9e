"""Tellings of some things: which sums are alike, heavier or unlike."""

from asmuchas.errors import NoTelling, TooMany, Wrong
from asmuchas.rows import row_of
from asmuchas.sets import is_within
from asmuchas.words import MOST_THINGS, are_things, is_integer, is_telling, sum_of


def _stands_in(things, telling):
    """Return whether all names of a telling are of some things."""
    return is_within(telling[1] + telling[2], things)


def is_telling_of(things, thing):
    """Return whether any value is a telling of some things."""
    return is_telling(thing) and _stands_in(things, thing)


def _are_tellings(things, thing):
    """Return whether any value is a list or a tuple of tellings of some things."""
    return isinstance(thing, (list, tuple)) and all([is_telling_of(things, part) for part in thing])


class Told:
    """Tellings of some things, in an order. It never changes."""

    def __init__(self, things, tellings):
        if not are_things(things):
            raise Wrong(0)
        if not _are_tellings(things, tellings):
            raise Wrong(1)
        self._things = things
        self._tellings = tuple(tellings)

    @property
    def things(self):
        """The ascending tuple of the things."""
        return self._things

    def __eq__(self, other):
        return isinstance(other, Told) and self._things == other._things and self._tellings == other._tellings

    def __len__(self):
        return len(self._tellings)

    def __iter__(self):
        return iter(self._tellings)

    def __getitem__(self, at):
        if not self._has(at):
            raise NoTelling(at)
        return self._tellings[at]

    def __or__(self, other):
        things = tuple(sorted(set(self._things + other._things)))
        if len(things) > MOST_THINGS:
            raise TooMany(MOST_THINGS)
        return Told(things, self._tellings + other._tellings)

    def _has(self, index):
        """Return whether any value is the index of a telling."""
        return is_integer(index) and 0 <= index < len(self._tellings)

    def tellings(self):
        """Return the list of the tellings."""
        return list(self._tellings)

    def rows(self, word):
        """Return the list of the rows of the tellings with a word."""
        return [row_of(self._things, telling[1:]) for telling in self._tellings if telling[0] == word]

    def indexes(self, word):
        """Return the ascending list of the indexes of the tellings with a word."""
        return [index for index, telling in enumerate(self._tellings) if telling[0] == word]

    def is_ordered(self):
        """Return whether a heavier telling is there."""
        return any([telling[0] == "heavier" for telling in self._tellings])

    def is_balanced(self):
        """Return whether both sums of each telling have equally many names."""
        return all([len(one) == len(other) for _, one, other in self._tellings])

    def with_telling(self, telling):
        """Return the Told with a further telling behind the others."""
        if not is_telling_of(self._things, telling):
            raise Wrong(0)
        return Told(self._things, self._tellings + (telling,))

    def without(self, index):
        """Return the Told without the telling with an index."""
        if not self._has(index):
            raise NoTelling(index)
        return Told(self._things, self._tellings[:index] + self._tellings[index + 1:])

    def about(self, things):
        """Return the Told of some of the things, with the tellings in which no other ones stand."""
        return Told(things, [telling for telling in self._tellings if _stands_in(things, telling)])


def _in_names(some, names):
    """Return the ascending tuple of the other names of some names."""
    return sum_of([names[name] for name in some])


def renamed(told, names):
    """Return the Told with other names, by a dict from the things to these, the tellings in their order."""
    tellings = [(word, _in_names(one, names), _in_names(other, names)) for word, one, other in told]
    return Told(_in_names(told.things, names), tellings)
