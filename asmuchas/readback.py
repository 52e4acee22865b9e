"""Readback: tellings read off worths, and worths that are found by the classes of their sums."""

from asmuchas.errors import TooMany
from asmuchas.freest import free, freest
from asmuchas.sets import is_within
from asmuchas.told import Told
from asmuchas.worths import classes, worth


def _alikes(some_classes):
    """Return the alike tellings of each sum with the next one of its class, class by class."""
    return [("alike", one, other) for part in some_classes for one, other in zip(part, part[1:])]


def alikes_of(worths, many):
    """Return the alike tellings of each sum of so many things with the next one that has its worth."""
    return _alikes(classes(worths, many))


def freedom(worths, many):
    """Return how many free worths the alike tellings of sums of so many things leave."""
    return free(Told(tuple(sorted(worths)), alikes_of(worths, many)))


def sum_count(worths, many):
    """Return how many different worths the sums of so many things have."""
    return len(classes(worths, many))


def has_even_steps(worths):
    """Return whether the different worths, ascending, rise by one step each time."""
    rising = sorted(set([worths[name] for name in worths]))
    return len(set([above - below for below, above in zip(rising, rising[1:])])) < 2


def _numbered(some_classes):
    """Return tuples of a sum and the number of its class."""
    return [(one, number) for number, part in enumerate(some_classes) for one in part]


def _keeps(worths, numbered):
    """Return whether just those of some sums have one worth that have one number."""
    found = {}
    for one, number in numbered:
        own = worth(worths, one)
        if found.setdefault(number, own) != own:
            return False
    return len(set(list(found.values()))) == len(found)


def _are_possible(things, some_classes):
    """Return whether some worths have just these classes of sums."""
    # the freest worths part all sums that the tellings of the classes leave any room to part
    worths = freest(Told(things, _alikes(some_classes)))
    return _keeps(worths, _numbered(some_classes))


def _first_row(things, numbered, greatest):
    """Return the first row of integers from 0 to greatest that keeps the classes of sums, or None."""
    found = [()]
    for place in range(len(things)):
        # sums of the things so far are asked at once: what does not keep their classes is not carried on
        some = things[:place + 1]
        asked = [(one, number) for one, number in numbered if is_within(one, some)]
        wider = [row + (part,) for row in found for part in range(greatest + 1)]
        found = [row for row in wider if _keeps(dict(zip(some, row)), asked)]
    return found[0] if found else None


def worths_with(things, some_classes, *, most=9):
    """Return the plainest worths of which the classes of sums are these, or None if no worths have them."""
    if not _are_possible(things, some_classes):
        return None
    numbered = _numbered(some_classes)
    for greatest in range(most + 1):
        row = _first_row(things, numbered, greatest)
        if row is not None:
            return dict(zip(things, row))
    raise TooMany(most)
