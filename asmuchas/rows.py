"""Rows: tuples with one integer for each thing, and what is worked out with them."""

from math import gcd


def row_of(things, pair):
    """Return how often each thing stands in the first sum of a pair less how often in the second one."""
    one, other = pair
    return tuple([one.count(name) - other.count(name) for name in things])


def added(one, other):
    """Return the row of the sums of the parts of two rows."""
    return tuple([part + further for part, further in zip(one, other)])


def taken(one, other):
    """Return the row of the parts of one less those of other."""
    return tuple([part - less for part, less in zip(one, other)])


def times(row, number):
    """Return the row with each part so many times."""
    return tuple([part * number for part in row])


def mixture(rows, numbers, many):
    """Return the sum of the rows of many parts, each as many times as its number tells."""
    whole = (0,) * many
    for row, number in zip(rows, numbers):
        whole = added(whole, times(row, number))
    return whole


def dot(one, other):
    """Return the products of the parts of two rows, added up."""
    return sum([part * further for part, further in zip(one, other)])


def is_balanced(row):
    """Return whether the parts of a row add up to 0."""
    return sum(row) == 0


def outcome(row, rows):
    """Return the row of what a row gives by dot with each of some rows."""
    return tuple([dot(row, one) for one in rows])


def common(row):
    """Return the greatest common divisor of the parts of a row, 0 if all are 0."""
    found = 0
    for part in row:
        found = gcd(found, part)
    return found


def shortened(row):
    """Return the row divided by the greatest common divisor of its parts, noughts as they are."""
    shared = common(row)
    return tuple([part // shared for part in row]) if shared > 1 else row


def stacked(rows, number, many):
    """Return the mixture of rows of many parts with the powers of a number, the last row taken once."""
    whole = (0,) * many
    for row in rows:
        whole = added(times(whole, number), row)
    return whole
