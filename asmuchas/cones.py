"""Cones: of the mixtures of some lines, those that give nothing below 0 by dot with some rows."""

from asmuchas.rows import dot, outcome, shortened, taken, times
from asmuchas.steps import frame, turned


def _level(row, up, other):
    """Return a multiple of other and of up, added up, that gives 0 by dot with row, with which up gives more."""
    return shortened(taken(times(other, dot(row, up)), times(up, dot(row, other))))


def _zeros(ray, rows):
    """Return a number of which the bits tell with which of rows a ray gives 0 by dot."""
    bits = 0
    for row in rows:
        bits = 2 * bits + int(dot(row, ray) == 0)
    return bits


def _are_beside(one, other, zeros):
    """Return whether no rays but two, of which the zeros are one and other, have all zeros that both have."""
    shared, found = one & other, 0
    for bits in zeros:
        if bits & shared == shared:
            found += 1
            if found > 2:
                return False
    return True


def _cut(rays, row, done):
    """Return the rays of the part of a cone, made by some rows, that gives nothing below 0 with a further row."""
    zeros = [_zeros(ray, done) for ray in rays]
    given = [(dot(row, ray), bits, ray) for ray, bits in zip(rays, zeros)]
    above = [(bits, ray) for number, bits, ray in given if number > 0]
    below = [(bits, ray) for number, bits, ray in given if number < 0]
    found = [ray for ray in rays if dot(row, ray) >= 0]
    for one, up in above:
        # between rays that are not beside each other there are no rays, only what is a mixture of them
        found = found + [_level(row, up, down) for other, down in below if _are_beside(one, other, zeros)]
    return found


def cone(lines, rows):
    """Return lines and rays of the mixtures of lines that give nothing below 0 by dot with any of rows.

    What is a mixture of these lines, with any numbers, and of these rays, with numbers from 0 on, is a multiple of
    such a mixture, and the other way about. No ray is one of the others, or of the lines.
    """
    left, rays, done = list(lines), [], []
    for row in rows:
        across = [line for line in left if dot(row, line) != 0]
        if across:
            first = across[0]
            up = first if dot(row, first) > 0 else times(first, -1)
            left = [_level(row, up, line) for line in left if line != first]
            rays = [_level(row, up, ray) for ray in rays] + [up]
        else:
            rays = _cut(rays, row, done)
        done.append(row)
    return left, rays


def is_wide(rays, rows):
    """Return whether a mixture of the rays of a cone, made by rows, gives more than 0 by dot with each of these."""
    # if each row has a ray of its own, all rays added up do
    return all([max(outcome(row, rays), default=0) > 0 for row in rows])


def _can_rise(lines, rows):
    """Return whether a mixture of lines gives more than 0 by dot with each of rows."""
    _, rays = cone(lines, rows)
    return is_wide(rays, rows)


def clash(lines, rows):
    """Return numbers, one for each of rows, that show that no mixture of lines gives more than 0 with each; or None.

    They are from 0 on, and not all 0, and the mixture of rows with them gives 0 by dot with all lines.
    """
    if _can_rise(lines, rows):
        return None
    places = list(range(len(rows)))
    for place in range(len(rows)):
        fewer = [one for one in places if one != place]
        if not _can_rise(lines, [rows[one] for one in fewer]):
            places = fewer
    # of a least list of such rows there is but one such mixture and its multiples, with no number of 0
    table = turned([outcome(rows[place], lines) for place in places], len(lines))
    numbers = [0] * len(rows)
    for place, number in zip(places, frame(table, len(places))[0]):
        numbers[place] = number
    return numbers
