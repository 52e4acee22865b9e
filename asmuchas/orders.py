"""Orders: whether tellings of all words stand, worths that fit them, and the words of pairs."""

from asmuchas.cones import cone, is_wide
from asmuchas.errors import NothingFits
from asmuchas.freest import frame_of
from asmuchas.rows import outcome, row_of, stacked
from asmuchas.verdicts import can_hold
from asmuchas.words import telling_of


def _ways(told):
    """Return lines and rays of the rows of worths that fit the alike tellings, no heavier one turned about."""
    return cone(frame_of(told), told.rows("heavier"))


def _stand_in(told, rays):
    """Return whether tellings stand, of which these are the rays."""
    # an unlike telling takes but a plane out of the worths that fit the others, if it is not held by the alike ones
    return is_wide(rays, told.rows("heavier")) and can_hold(told, [])


def stands_all(told):
    """Return whether some worths fit all tellings, heavier ones among them."""
    _, rays = _ways(told)
    return _stand_in(told, rays)


def check_stands_all(told):
    """Raise an error unless some worths fit all tellings, heavier ones among them."""
    if not stands_all(told):
        raise NothingFits()


def _found_worths(told):
    """Return worths that fit, or None if there are none."""
    lines, rays = _ways(told)
    if not _stand_in(told, rays):
        return None
    number, many, unlike = 1, len(told.things), told.rows("unlike")
    row = stacked(rays + lines, number, many)
    # each unlike telling is missed with few numbers only: what it gives is not 0 with all rays and lines
    while 0 in outcome(row, unlike):
        number += 1
        row = stacked(rays + lines, number, many)
    return dict(zip(told.things, row))


def some_worths(told):
    """Return worths that fit all tellings."""
    found = _found_worths(told)
    if found is None:
        raise NothingFits()
    return found


def worths_for(told, pair, sign):
    """Return worths that fit in which the first sum of a pair is heavier (1), alike (0) or lighter (-1); or None."""
    check_stands_all(told)
    word = "alike"
    if sign != 0:
        word = "heavier" if sign > 0 else "lighter"
    return _found_worths(told.with_telling(telling_of(word, pair)))


def word_of(told, pair):
    """Return the word of a pair: alike, heavier, lighter, unlike or open."""
    lines, rays = _ways(told)
    if not _stand_in(told, rays):
        raise NothingFits()
    row = row_of(told.things, pair)
    across, along = any(outcome(row, lines)), outcome(row, rays)
    above, below = across or max(along, default=0) > 0, across or min(along, default=0) < 0
    if above and below:
        return "open" if can_hold(told, [row]) else "unlike"
    if above or below:
        return "heavier" if above else "lighter"
    return "alike"
