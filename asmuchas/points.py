"""Points: what unlike tellings tell, and which tellings are missing until each pair is settled."""

from asmuchas.divisors import is_held, point
from asmuchas.errors import Ordered
from asmuchas.rows import row_of
from asmuchas.verdicts import check_stands
from asmuchas.words import pairs
from asmuchas.worths import word_in


def point_of(told, pair):
    """Return the point of the row of a pair, by the rows of the alike tellings."""
    return point(told.rows("alike"), row_of(told.things, pair))


def _points(told, alike):
    """Return the points of the unlike tellings, by alike rows."""
    return [point(alike, row) for row in told.rows("unlike")]


def points_told(told):
    """Return the ascending list of the different points of the unlike tellings."""
    if told.is_ordered():
        raise Ordered()
    return sorted(set(_points(told, told.rows("alike"))))


def _alike_missing(told, some):
    """Return those of some pairs, in order, that are not held by the alike tellings and those before them."""
    alike = told.rows("alike")
    found = []
    for pair in some:
        row = row_of(told.things, pair)
        if not is_held(alike, row):
            alike.append(row)
            found.append(pair)
    return found


def _unlike_missing(told, alike, some):
    """Return those of some pairs, in order, with points by alike rows that neither tellings nor those before have."""
    seen = set(_points(told, alike))
    found = []
    for pair in some:
        place = point(alike, row_of(told.things, pair))
        if place not in seen:
            seen.add(place)
            found.append(pair)
    return found


def questions_to(told, worths):
    """Return as few true tellings as possible with which all pairs of sums of two are as in the worths."""
    check_stands(told)
    asked = pairs(told.things, 2)
    same = _alike_missing(told, [pair for pair in asked if word_in(worths, pair) == "alike"])
    # points are taken by the alike rows of the aim: with each alike telling, some points may fall together
    alike = told.rows("alike") + [row_of(told.things, pair) for pair in same]
    apart = _unlike_missing(told, alike, [pair for pair in asked if word_in(worths, pair) != "alike"])
    return [("alike", *pair) for pair in same] + [("unlike", *pair) for pair in apart]


def missing(told, worths):
    """Return how many true tellings are missing until all pairs of sums of two are as in the worths."""
    return len(questions_to(told, worths))
