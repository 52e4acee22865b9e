"""Verdicts on pairs of tellings without heavier ones: what is so in all worths that fit."""

from asmuchas.errors import NothingFits, Ordered
from asmuchas.rows import outcome, row_of
from asmuchas.sets import least_sets
from asmuchas.steps import frame
from asmuchas.words import sums


def can_hold(told, rows):
    """Return whether some worths fit with which further rows give 0."""
    # a row is held if it gives noughts with the frame; of unlike tellings each acts by itself: worths that part
    # one pair and worths that part another one can be put together so that both are parted
    free = frame(told.rows("alike") + rows, len(told.things))
    return all([any(outcome(row, free)) for row in told.rows("unlike")])


def stands(told):
    """Return whether some worths fit all tellings."""
    if told.is_ordered():
        raise Ordered()
    return can_hold(told, [])


def check_stands(told):
    """Raise an error unless some worths fit all tellings."""
    if not stands(told):
        raise NothingFits()


def plain_word(told, pair):
    """Return the word of a pair: alike, unlike or open."""
    check_stands(told)
    row = row_of(told.things, pair)
    if not any(outcome(row, frame(told.rows("alike"), len(told.things)))):
        return "alike"
    return "open" if can_hold(told, [row]) else "unlike"


def can_be_alike(told, pairs):
    """Return whether all pairs of a list are alike in some worths that fit."""
    check_stands(told)
    return can_hold(told, [row_of(told.things, pair) for pair in pairs])


def barring(told, pairs):
    """Return the least sets of pairs of a list that are alike in no worths that fit, as lists of indexes."""
    check_stands(told)
    rows = [row_of(told.things, pair) for pair in pairs]
    return least_sets(len(rows), lambda some: not can_hold(told, [rows[index] for index in some]))


def alike_sums(told, many):
    """Return the lists of the sums of so many things that are alike in all worths that fit."""
    check_stands(told)
    free = frame(told.rows("alike"), len(told.things))
    found = {}
    for one in sums(told.things, many):
        found.setdefault(outcome(row_of(told.things, (one, ())), free), []).append(one)
    return list(found.values())
