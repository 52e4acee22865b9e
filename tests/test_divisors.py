"""Divisors, clocks and points [27], and what the guarantees [5] and [8] say of them."""

from itertools import combinations, permutations, product
from math import gcd, prod
from random import Random

from asmuchas.divisors import (
    divisor, divisors, is_held, is_made_on, multipliers_on, point, through,
)
from asmuchas.errors import NotHeld
from asmuchas.rows import added, mixture, taken, times
from asmuchas.steps import held_steps, is_made, rank, steps
from tests.helpers import Case, box, plain_rank, plainly_held
from tests.test_steps import GREAT, samples

ROWS = [(2, -1, -1, 0), (0, 2, -2, 0)]
LONG = 10 ** 79 + 9


def determinant(table):
    """Return the determinant of a list of rows, by all orders of the columns."""
    whole = 0
    for order in permutations(range(len(table))):
        swaps = sum(order[left] > order[right] for left, right in combinations(range(len(table)), 2))
        whole += (-1) ** swaps * prod(row[place] for row, place in zip(table, order))
    return whole


def determinants_divisor(rows, many, size):
    """Return the greatest common divisor of the determinants of so many columns of so many rows."""
    whole = 0
    for some in combinations(rows, size):
        for places in combinations(range(many), size):
            whole = gcd(whole, determinant([[row[place] for place in places] for row in some]))
    return whole


class Held(Case):
    def test_held_rows(self):
        for rows, row in [([], (0, 0)), ([], ()), ([()], ()), (ROWS, (0, 1, -1, 0)), (ROWS, (0, 0, 0, 0)),
                          ([(2, 4)], (-3, -6)), ([(30, 0), (0, 29)], (1000, -999))]:
            self.same(self.answer(is_held, rows, row), True)

    def test_rows_that_are_not_held(self):
        for rows, row in [([], (0, 1)), ([(0, 0)], (1, 0)), (ROWS, (0, 0, 0, 1)), (ROWS, (1, 0, 0, 0)),
                          ([(2, 4)], (1, 1)), (ROWS, (0, 0, 3, -3 * 10 ** 3))]:
            self.same(self.answer(is_held, rows, row), False)
            for function in (divisor, through):
                error = self.refuses(NotHeld, function, rows, row)
                self.assertIs(error.row, row)

    def test_held_just_if_fractions_make_it(self):
        for rows, many in samples():
            if many in (1, 2, 3):
                for row in box(many, 2):
                    self.assertIs(is_held(rows, row), plainly_held(rows, row))


class Divisors(Case):
    def test_divisor(self):
        self.same(self.answer(divisor, ROWS, (0, 1, -1, 0)), 2)
        self.same(self.answer(divisor, ROWS, (1, 0, -1, 0)), 4)
        self.same(self.answer(divisor, ROWS, (0, 2, -2, 0)), 1)
        self.same(self.answer(divisor, ROWS, (0, 0, 0, 0)), 1)
        self.same(self.answer(divisor, [], (0, 0)), 1)
        self.same(self.answer(divisor, [], ()), 1)
        self.same(self.answer(divisor, [(6, 0), (0, 10)], (1, 1)), 30)
        self.same(self.answer(divisor, [(6, 0), (0, 10)], (-3, 4)), 10)
        self.same(self.answer(divisor, [(6,), (10,)], (-3,)), 2)

    def test_divisor_is_the_least_number(self):
        chance = Random(27)
        for rows, many in samples():
            held = held_steps(rows, many)
            row = mixture(held, [chance.randint(-3, 3) for _ in held], many)
            number = self.answer(divisor, rows, row)
            self.assertGreaterEqual(number, 1)
            self.assertTrue(is_made(rows, times(row, number)))
            for less in (part for part in range(1, min(number, 3000)) if number % part == 0):
                self.assertFalse(is_made(rows, times(row, less)))
            for prime in (2, 3, 5, 7, 11, 13):
                if number % prime == 0:
                    self.assertFalse(is_made(rows, times(row, number // prime)))

    def test_divisors(self):
        self.same(self.answer(divisors, ROWS, 4), [1, 4])
        self.same(self.answer(divisors, [(6, 0), (0, 10)], 2), [2, 30])
        self.same(self.answer(divisors, [(4, 0, 0), (0, 6, 0), (0, 0, 9)], 3), [1, 6, 36])
        self.same(self.answer(divisors, [(0, -12, 18)], 3), [6])
        self.same(self.answer(divisors, [(-5,), (-5,)], 1), [5])
        for rows, many in [([], 0), ([], 3), ([()], 0), ([(0, 0), (0, 0)], 2)]:
            self.same(self.answer(divisors, rows, many), [])

    def test_divisors_multiply_to_those_of_determinants(self):
        for rows, many in samples():
            found = self.answer(divisors, rows, many)
            self.assertEqual(len(found), plain_rank(rows))
            self.assertTrue(all(number >= 1 for number in found))
            self.assertTrue(all(later % number == 0 for number, later in zip(found, found[1:])))
            made = steps(rows)
            for size in range(1, min(len(found), 4) + 1):
                self.assertEqual(prod(found[:size]), determinants_divisor(made, many, size))
            last = found[-1] if found else 1
            whole = 1
            for row in held_steps(rows, many):
                whole = whole * divisor(rows, row) // gcd(whole, divisor(rows, row))
            self.assertEqual(last, whole)

    def test_great_divisors(self):
        found = self.answer(divisors, GREAT[:6], 6)
        self.assertEqual(prod(found), abs(determinant(GREAT[:6])))
        self.assertEqual(prod(self.answer(divisors, [times(row, 30) for row in GREAT[:2]], 6)[:1]) % 30, 0)


class Clocks(Case):
    def check_made_on(self, rows, row, size):
        """Check that a row is made on a clock, by the numbers and the rest with which it is."""
        numbers, rest = self.answer(multipliers_on, rows, row, size)
        self.assertIsInstance(numbers, list)
        self.assertIsInstance(rest, tuple)
        self.assertEqual((len(numbers), len(rest)), (len(rows), len(row)))
        self.same(added(mixture(rows, numbers, len(row)), times(rest, size)), row)
        self.same(self.answer(is_made_on, rows, row, size), True)

    def test_rows_made_on_clocks(self):
        for size in (2, 6, 10, 402):
            self.check_made_on(ROWS, (0, 1, -1, 0), size)
        for size in (2, 3, 400, 401, LONG):
            self.check_made_on([], (size, -size), size)
            self.check_made_on([], (), size)
            self.check_made_on([(), ()], (), size)
            self.check_made_on([(1, 0, 1)], (5, size, 5 - 3 * size), size)
            self.check_made_on(ROWS, (2, 1, -3, 0), size)
        self.check_made_on([(2, 0)], (1, 7), 7)
        for size in (3, LONG):
            self.check_made_on(GREAT, (1000, -999, 998, 1000, 0, 1), size)

    def test_rows_not_made_on_clocks(self):
        for rows, row, size in [
            (ROWS, (0, 1, -1, 0), 4), (ROWS, (0, 1, -1, 0), 400), (ROWS, (1, 0, -1, 0), 2), ([], (1, 0), 2),
            ([], (400, 1), 400), ([(2, 0)], (1, 0), 400), ([(2, 0)], (0, 1), 2), ([(0, 0)], (0, 200), 400),
            ([(3, 3)], (1, 1), 3 * LONG), ([], (1,), LONG),
        ]:
            self.same(self.answer(multipliers_on, rows, row, size), None)
            self.same(self.answer(is_made_on, rows, row, size), False)

    def test_made_on_a_clock_just_if_some_numbers_make_it(self):
        for rows in ([(2, 1), (1, 3)], [(2, -2), (-3, 3)], [(4, 2), (0, 3)], [(0, 2), (0, 2)], [(0, 0)], []):
            for size in range(2, 10):
                reached = {
                    tuple(part % size for part in mixture(rows, numbers, 2))
                    for numbers in product(range(size), repeat=len(rows))
                }
                for row in box(2, 4):
                    wanted = tuple(part % size for part in row) in reached
                    self.assertIs(is_made_on(rows, row, size), wanted)
                    self.assertIs(multipliers_on(rows, row, size) is not None, wanted)

    def test_through(self):
        self.same(self.answer(through, ROWS, (0, 1, -1, 0)), [4])
        self.same(self.answer(through, ROWS, (1, 0, -1, 0)), [2])
        self.same(self.answer(through, ROWS, (0, 2, -2, 0)), [])
        self.same(self.answer(through, [], (0, 0)), [])
        self.same(self.answer(through, [()], ()), [])
        self.same(self.answer(through, [(30, 0)], (1, 0)), [2, 3, 5])
        self.same(self.answer(through, [(8, 0), (0, 27)], (4, 3)), [8, 9])
        self.same(self.answer(through, [(8, 0), (0, 9)], (4, 3)), [8, 9])
        self.same(self.answer(through, [(16,)], (1000,)), [16])

    def test_through_tells_the_sizes(self):
        chance = Random(8)
        for rows, many in samples():
            held = held_steps(rows, many)
            row = mixture(held, [chance.randint(-3, 3) for _ in held], many)
            powers = self.answer(through, rows, row)
            self.assertEqual(powers, sorted(set(powers)))
            self.assertEqual(powers == [], is_made(rows, row))
            for size in (2, 3, 4, 5, 6, 7, 8, 9, 12, 16, 25, 27, 30, 32, 49, 210, 360, 400):
                self.assertIs(is_made_on(rows, row, size), all(size % power != 0 for power in powers))
            for power in powers:
                self.assertFalse(is_made_on(rows, row, power))

    def test_rows_that_are_not_made_fail_on_some_clock(self):
        chance = Random(9)
        for rows, many in samples():
            for row in [tuple(chance.randint(-9, 9) for _ in range(many)), tuple(range(many))]:
                if not is_held(rows, row):
                    self.assertTrue(any(not is_made_on(rows, row, size) for size in (11, 64, 81, 125, 211, 397)))

    def test_through_of_great_divisors(self):
        rows = GREAT[:6]
        for row in [(1, 0, 0, 0, 0, 0), (0, 0, 0, 0, 0, 1), (1000, 999, -998, 997, 1, -1)]:
            number = divisor(rows, row)
            self.assertGreater(number, 30)
            for power in self.answer(through, rows, row):
                prime = min(part for part in range(2, power + 1) if power % part == 0) if power < 10 ** 6 else power
                self.assertEqual(number % prime, 0)
                self.assertFalse(is_made_on(rows, row, power))
                if power > prime:
                    self.assertTrue(is_made_on(rows, row, power // prime))


class Points(Case):
    def test_points(self):
        self.same(self.answer(point, ROWS, (0, 0, 3, -3)), (0, 0, 1, -1))
        self.same(self.answer(point, ROWS, (1, -1, 0, 0)), ())
        self.same(self.answer(point, ROWS, (-1, 0, 0, 0)), (0, 0, 1, 0))
        self.same(self.answer(point, [], (0, 0)), ())
        self.same(self.answer(point, [], ()), ())
        self.same(self.answer(point, [()], ()), ())
        self.same(self.answer(point, [], (0, -4, 6)), (0, 2, -3))
        self.same(self.answer(point, [(2, 3, 0)], (1, 0, 1)), (0, 3, -2))

    def test_properties_of_points(self):
        chance = Random(43)
        for rows, many in samples():
            held = held_steps(rows, many)
            row = tuple(chance.randint(-1000, 1000) for _ in range(many))
            found = self.answer(point, rows, row)
            self.assertEqual(found == (), is_held(rows, row))
            if found != ():
                self.assertEqual(plain_rank(held + [row, found]), len(held) + 1)
                self.assertFalse(is_held(rows, found))
                for step in held:
                    self.assertEqual(found[next(place for place, part in enumerate(step) if part != 0)], 0)
                self.assertEqual(gcd(*found), 1)
                self.assertGreater(next(part for part in found if part != 0), 0)
            for number in (-7, 1, 2):
                other = mixture(held, [chance.randint(-9, 9) for _ in held], many)
                self.same(point(rows, taken(times(row, number), other)), found)

    def test_one_point_just_if_rows_hold_each_other(self):
        rows = [(1, 1, -2)]
        for row in box(3, 1):
            for other in box(3, 1):
                if not is_held(rows, row) and not is_held(rows, other):
                    together = rank(rows + [row, other]) == rank(rows + [row])
                    self.assertIs(point(rows, row) == point(rows, other), together)
