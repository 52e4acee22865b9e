"""Plainest worths: of all worths from 0 on that fit balanced tellings, those whose greatest worth is least."""

from asmuchas.errors import TooMany, Unbalanced
from asmuchas.orders import check_stands_all
from asmuchas.rows import times
from asmuchas.worths import are_worths


def _needs(told):
    """Return tuples of a row and the least number that it must give by dot with worths that fit, but for unlike."""
    alike = told.rows("alike")
    needs = [(row, 1) for row in told.rows("heavier")]
    return needs + [(row, 0) for row in alike] + [(times(row, -1), 0) for row in alike]


def _greatest(row, box):
    """Return the greatest number that a row gives by dot with worths in a box: a least and a most for each thing."""
    return sum([part * (most if part > 0 else least) for part, (least, most) in zip(row, box)])


def _narrowed(box, row, need):
    """Return a box without what is too little for a need whatever the other worths are, or None if all is."""
    room = _greatest(row, box) - need
    if room < 0:
        return None
    narrower = []
    for part, (least, most) in zip(row, box):
        if part > 0:
            least = max(least, most - room // part)
        elif part < 0:
            most = min(most, least + room // -part)
        narrower.append((least, most))
    return narrower


def _settled(box, needs):
    """Return a box narrowed until it stays as it is, or None if nothing in it meets the needs."""
    before = []
    while box != before:
        before = box
        for row, need in needs:
            box = _narrowed(box, row, need)
            if box is None:
                return None
    return box


def _gives_nothing(row, box):
    """Return whether a row gives 0 by dot with all worths in a box."""
    return _greatest(row, box) == 0 and _greatest(times(row, -1), box) == 0


def _first_row(box, needs, unlike):
    """Return the first row in a box that meets needs and gives 0 with no unlike row, or None if there is none."""
    left = _settled(box, needs)
    if left is None or any([_gives_nothing(row, left) for row in unlike]):
        return None
    place = 0
    while place < len(left) and left[place][0] == left[place][1]:
        place += 1
    if place == len(left):
        return [least for least, _ in left]
    for part in range(left[place][0], left[place][1] + 1):
        found = _first_row(left[:place] + [(part, part)] + left[place + 1:], needs, unlike)
        if found is not None:
            return found
    return None


def plainest(told, *, most=9):
    """Return the plainest worths of balanced tellings."""
    if not told.is_balanced():
        raise Unbalanced()
    check_stands_all(told)
    needs, unlike = _needs(told), told.rows("unlike")
    for greatest in range(most + 1):
        found = _first_row([(0, greatest)] * len(told.things), needs, unlike)
        if found is not None:
            return dict(zip(told.things, found))
    raise TooMany(most)


def is_plainest(told, thing, *, most=9):
    """Return whether any value is the plainest worths of balanced tellings."""
    found = plainest(told, most=most)
    return are_worths(told.things, thing) and thing == found
