"""Sizes: on clocks of which sizes some worths fit tellings."""

from math import gcd

from asmuchas.clocks import rows_on
from asmuchas.divisors import divisors
from asmuchas.errors import Ordered, TooMany, Wrong
from asmuchas.freest import frame_of
from asmuchas.rows import common, outcome
from asmuchas.words import is_integer, is_rising


def _next_size(part, number, above):
    """Return the least number above another one of which a part is the greatest common divisor with number."""
    # multiples of the part alone are asked; among a few in a row one has no further divisor in common
    size = (above // part + 1) * part
    while gcd(size, number) != part:
        size += part
    return size


class Sizes:
    """A set of sizes of clocks: some up to a bound, beyond it those with a good greatest common divisor."""

    def __init__(self, bound, number, good, small):
        if not is_integer(bound) or bound < 0:
            raise Wrong(0)
        if not is_integer(number) or number < 1:
            raise Wrong(1)
        if not is_rising(good, 1, number) or any([number % part != 0 for part in good]):
            raise Wrong(2)
        if not is_rising(small, 2, bound):
            raise Wrong(3)
        self._bound = bound
        self._number = number
        self._good = tuple(good)
        self._small = tuple(small)

    @property
    def bound(self):
        """The greatest size of which the small ones tell."""
        return self._bound

    @property
    def number(self):
        """The number of which the greatest common divisors with greater sizes are asked."""
        return self._number

    def __eq__(self, other):
        if not isinstance(other, Sizes) or self._bound != other._bound or self._number != other._number:
            return False
        return self._good == other._good and self._small == other._small

    def __call__(self, size):
        if size <= self._bound:
            return size in self._small
        return gcd(size, self._number) in self._good

    def good(self):
        """Return the ascending list of the good greatest common divisors."""
        return list(self._good)

    def small(self):
        """Return the ascending list of the sizes up to the bound."""
        return list(self._small)

    def least(self):
        """Return the least size, or None if there is none."""
        if self._small:
            return self._small[0]
        # sizes begin with 2
        above = max(self._bound, 1)
        return min([_next_size(part, self._number, above) for part in self._good], default=None)


def sizes_of(told, *, most=12):
    """Return the Sizes of the clocks on which some worths fit all tellings."""
    if told.is_ordered():
        raise Ordered()
    alike, unlike, many = told.rows("alike"), told.rows("unlike"), len(told.things)
    made = frame_of(told)
    bound = sum([common(outcome(row, made)) for row in unlike])
    number = max(divisors(alike, many), default=1)
    if bound > most or number > most:
        raise TooMany(most)
    small = [size for size in range(2, bound + 1) if rows_on(alike, unlike, many, size) != []]
    # beyond the bound there is room enough to part what is not held; what is held takes, on a clock, the same
    # outcomes as on the clock of the greatest common divisor with the number
    held = [row for row in unlike if not any(outcome(row, made))]
    good = [part for part in range(1, number + 1) if number % part == 0 and rows_on(alike, held, many, part) != []]
    return Sizes(bound, number, good, small)
