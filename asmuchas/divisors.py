"""Divisors: held rows, mixtures on clocks, and the points of rows that are not held."""

from math import gcd

from asmuchas.errors import NotHeld
from asmuchas.rows import shortened, taken, times
from asmuchas.steps import first_place, is_made, multipliers, steps, turned, units


def _cleared(rows, row):
    """Return the least number from 1 on and what is left of row, so many times, with 0 at all first places.

    What was taken is a mixture of the steps of rows.
    """
    number, left = 1, row
    for step in steps(rows):
        place = first_place(step)
        factor = step[place] // gcd(step[place], left[place])
        number = number * factor
        left = times(left, factor)
        left = taken(left, times(step, left[place] // step[place]))
    return number, left


def is_held(rows, row):
    """Return whether a multiple of row by an integer from 1 on is a mixture of rows."""
    _, left = _cleared(rows, row)
    return not any(left)


def divisor(rows, row):
    """Return the least integer from 1 on by which the multiple of row is a mixture of rows."""
    number, left = _cleared(rows, row)
    if any(left):
        raise NotHeld(row)
    return number


def _is_plain(table):
    """Return whether just one part of each row is not 0."""
    return all([row.count(0) == len(row) - 1 for row in table])


def _chained(numbers):
    """Return numbers from 1 on, each dividing the next one, with the same greatest divisors of products."""
    chain = list(numbers)
    for place in range(len(chain)):
        for later in range(place + 1, len(chain)):
            shared = gcd(chain[place], chain[later])
            chain[later] = chain[place] // shared * chain[later]
            chain[place] = shared
    return chain


def divisors(rows, many):
    """Return the divisors of rows of many integers, as many as the rank, each dividing the next one."""
    table = steps(turned(steps(rows), many))
    # each turn leaves a first part as it is, with noughts beside and below it, or replaces it by a divisor of it
    while not _is_plain(table):
        table = steps(turned(table, len(table)))
    return _chained([max(row) for row in table])


def _clock_rows(many, size):
    """Return rows of which the mixtures are all rows of many multiples of size."""
    return [times(unit, size) for unit in units(many)]


def multipliers_on(rows, row, size):
    """Return numbers and a rest: row is the mixture of rows with numbers and size times rest; or None."""
    many = len(row)
    numbers = multipliers(_clock_rows(many, size) + rows, row)
    if numbers is None:
        return None
    return numbers[many:], tuple(numbers[:many])


def is_made_on(rows, row, size):
    """Return whether row is, up to multiples of size, a mixture of rows."""
    return is_made(_clock_rows(len(row), size) + rows, row)


def _primes(number):
    """Return the list of the primes that divide a number from 1 on."""
    found = []
    left, prime = number, 2
    while prime * prime <= left:
        if left % prime != 0:
            prime += 1
        else:
            left = left // prime
            found.append(prime)
    if left > 1:
        found.append(left)
    return sorted(set(found))


def _first_power(rows, row, prime):
    """Return the least power of a prime on which row is not made, where there is one."""
    power = prime
    while is_made_on(rows, row, power):
        power = power * prime
    return power


def through(rows, row):
    """Return the ascending list of the powers of primes that are the first ones on which a held row is not made."""
    # other primes let the row through: a multiple of it that they do not divide is made
    return sorted([_first_power(rows, row, prime) for prime in _primes(divisor(rows, row))])


def point(rows, row):
    """Return the plainest row that differs from row by held rows and multiples, () for a held row."""
    # held rows have their first places just where the steps of rows have them
    _, left = _cleared(rows, row)
    if not any(left):
        return ()
    return shortened(left if left[first_place(left)] > 0 else times(left, -1))
