"""Worths of things and of sums of them, on clocks too, and whether they fit tellings."""

from asmuchas.errors import Ordered
from asmuchas.words import is_integer, sums


def are_worths(things, thing):
    """Return whether any value is a dict from just these things to integers."""
    if not isinstance(thing, dict) or len(thing) != len(things):
        return False
    return all([name in thing and is_integer(thing[name]) for name in things])


def are_worths_on(things, size, thing):
    """Return whether any value is worths of just these things on a clock of a size."""
    return are_worths(things, thing) and all([0 <= thing[name] < size for name in things])


def worth(worths, one):
    """Return the worth of a sum."""
    return sum([worths[name] for name in one])


def worth_on(worths, one, size):
    """Return what is left of the worth of a sum on a clock of a size."""
    return worth(worths, one) % size


def word_in(worths, pair):
    """Return how the worth of the first sum of a pair stands to that of the second one."""
    above = worth(worths, pair[0]) - worth(worths, pair[1])
    if above == 0:
        return "alike"
    return "heavier" if above > 0 else "lighter"


def classes(worths, many):
    """Return the lists of the sums of so many things that have one worth, by rising worths."""
    found = {}
    for one in sums(sorted(worths), many):
        found.setdefault(worth(worths, one), []).append(one)
    return [found[key] for key in sorted(found)]


def _is_so(word, left, right):
    """Return whether what a word tells is so of the worths of its two sums."""
    if word == "heavier":
        return left > right
    return (left == right) == (word == "alike")


def misfits(told, worths):
    """Return the ascending list of the indexes of the tellings that worths do not fit."""
    return [
        index for index, (word, one, other) in enumerate(told)
        if not _is_so(word, worth(worths, one), worth(worths, other))
    ]


def fits(told, thing):
    """Return whether any value is worths that fit all tellings."""
    return are_worths(told.things, thing) and misfits(told, thing) == []


def fits_on(told, size, thing):
    """Return whether any value is worths on a clock of a size that fit all tellings."""
    if told.is_ordered():
        raise Ordered()
    if not are_worths_on(told.things, size, thing):
        return False
    return all([_is_so(word, worth_on(thing, one, size), worth_on(thing, other, size)) for word, one, other in told])


def shifted(worths, number):
    """Return worths with each one a number greater."""
    return {name: worths[name] + number for name in sorted(worths)}


def stretched(worths, number):
    """Return worths with each one a number of times as great."""
    return {name: worths[name] * number for name in sorted(worths)}
