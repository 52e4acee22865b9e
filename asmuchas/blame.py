"""Blame: which tellings cannot stand together, and which must be wrong for the others to stand."""

from asmuchas.orders import stands_all
from asmuchas.sets import is_least, least_sets
from asmuchas.told import Told
from asmuchas.words import is_rising


def _clash_in(told, some):
    """Return whether a set of tellings does not stand alone."""
    return not stands_all(Told(told.things, [told[index] for index in some]))


def _mends(told, some):
    """Return whether the others stand without a set of tellings."""
    return stands_all(Told(told.things, [telling for index, telling in enumerate(told) if index not in some]))


def clashes(told):
    """Return the least sets of tellings that do not stand alone."""
    return [tuple(one) for one in least_sets(len(told), lambda some: _clash_in(told, some))]


def repairs(told):
    """Return the least sets of tellings without which the others stand."""
    return [tuple(one) for one in least_sets(len(told), lambda some: _mends(told, some))]


def surely_wrong(told):
    """Return the ascending list of the indexes of the tellings that stand in all repairs."""
    found = repairs(told)
    return [index for index in range(len(told)) if all([index in one for one in found])]


def maybe_wrong(told):
    """Return the ascending list of the indexes of the tellings that stand in some repairs."""
    found = repairs(told)
    return [index for index in range(len(told)) if any([index in one for one in found])]


def fewest_wrong(told):
    """Return the first repair: no other one has fewer tellings."""
    return repairs(told)[0]


def _is_set(told, thing):
    """Return whether any value is a set of tellings: the ascending tuple of their indexes."""
    return isinstance(thing, tuple) and is_rising(list(thing), 0, len(told) - 1)


def is_clash(told, thing):
    """Return whether any value is a least set of tellings that do not stand alone."""
    return _is_set(told, thing) and is_least(thing, lambda some: _clash_in(told, some))


def is_repair(told, thing):
    """Return whether any value is a least set of tellings without which the others stand."""
    return _is_set(told, thing) and is_least(thing, lambda some: _mends(told, some))


def are_apart_sets(told, thing):
    """Return whether any value is a list of sets of tellings, none in two of them, that do not stand alone."""
    if not isinstance(thing, list) or not all([_is_set(told, one) for one in thing]):
        return False
    indexes = [index for one in thing for index in one]
    if len(set(indexes)) != len(indexes):
        return False
    for one in thing:
        if not _clash_in(told, one):
            return False
    return True
