"""Cones, on which [60] to [62] rest."""

from itertools import combinations
from random import Random

from asmuchas.cones import clash, cone, is_wide
from asmuchas.rows import dot, mixture, shortened
from asmuchas.steps import frame, units
from tests.helpers import Case, box, plain_heads, plain_left, plain_rank


def plain_rays(rows, many):
    """Return the rays of a cone without lines, ascending: each gives 0 with rows of a rank one less than many."""
    found = set()
    for some in combinations(rows, many - 1):
        if plain_rank(some) == many - 1:
            for sign in (1, -1):
                ray = shortened(tuple(sign * part for part in frame(list(some), many)[0]))
                if all(dot(row, ray) >= 0 for row in rows):
                    found.add(ray)
    return sorted(found)


def parts_in(rows, row):
    """Return the numbers with which row is a mixture of rows that do not depend on each other, or None."""
    counted = [one + unit for one, unit in zip(rows, units(len(rows)))]
    heads = [head for head in plain_heads(counted) if head[0] < len(row)]
    left = plain_left(heads, row + (0,) * len(rows))
    return None if any(left[:len(row)]) else [-part for part in left[len(row):]]


def is_in(lines, rays, row):
    """Return whether a row is a mixture of lines, and of few rays with numbers from 0 on."""
    for many in range(len(row) - len(lines) + 1):
        for some in combinations(rays, many):
            rows = lines + list(some)
            if plain_rank(rows) == len(rows):
                numbers = parts_in(rows, row)
                if numbers is not None and all(number >= 0 for number in numbers[len(lines):]):
                    return True
    return False


def turned_to(rows, inner):
    """Return rows, those turned about that give less than 0 with an inner row."""
    return [row if dot(row, inner) >= 0 else tuple(-part for part in row) for row in rows]


class Cones(Case):
    def test_edges(self):
        for lines, rows, left, rays in [
            ([], [], [], []), ([], [(1, 2)], [], []), (units(2), [], units(2), []), (units(2), [(0, 0)], units(2), []),
            (units(0), [()], [], []), (units(1), [(1,), (-1,)], [], []), (units(1), [(-2,), (-3,)], [], [(-1,)]),
            (units(2), [(1, 0), (0, 1), (-1, -1)], [], []), (units(2), [(0, 1)], [(1, 0)], [(0, 1)]),
            (units(2), [(1, 0), (0, 1), (1, 1)], [], [(0, 1), (1, 0)]),
            ([(1, 1, 0), (0, 1, 1)], [(1, 0, 0), (0, 0, 1)], [], [(0, 1, 1), (1, 1, 0)]),
        ]:
            found, others = self.answer(cone, lines, rows)
            self.same((found, sorted(others)), (left, rays))

    def test_rays(self):
        chance = Random(60)
        for many in (1, 2, 3, 3, 4, 5, 6):
            for length in range(many, 10):
                for inner in ((1,) * many, tuple(range(many)), (0,) * many):
                    rows = [tuple(chance.randint(-3, 3) for _ in range(many)) for _ in range(length)]
                    rows = turned_to(rows, inner)
                    lines, rays = self.answer(cone, units(many), rows)
                    self.assertTrue(all(dot(row, line) == 0 for row in rows for line in lines))
                    self.assertTrue(all(dot(row, ray) >= 0 for row in rows for ray in rays))
                    self.assertEqual((len(lines), plain_rank(lines)), (many - plain_rank(rows),) * 2)
                    if lines == []:
                        self.assertEqual(sorted(rays), plain_rays(rows, many))

    def test_lines_and_rays(self):
        chance = Random(61)
        for length in range(1, 6):
            rows = [tuple(chance.randint(-1, 1) for _ in range(2)) for _ in range(length)]
            rows = turned_to([(one, other, one - other) for one, other in rows], (1, 0, 2))
            lines, rays = self.answer(cone, units(3), rows)
            self.assertGreater(len(lines), 0)
            for row in box(3, 1):
                self.assertEqual(is_in(lines, rays, row), all(dot(one, row) >= 0 for one in rows))

    def test_wide_cones(self):
        for rays, rows, wanted in [
            ([], [], True), ([(1,)], [], True), ([], [(1,)], False), ([(1, 0)], [(1, 1)], True),
            ([(1, 0)], [(1, 1), (0, 1)], False), ([(1, 0), (0, 1)], [(1, 0), (0, 1)], True),
            ([(1, 0), (0, 1)], [(1, 0), (0, 0)], False), ([()], [()], False),
        ]:
            self.same(self.answer(is_wide, rays, rows), wanted)


class Clashes(Case):
    def test_edges(self):
        for lines, rows, numbers in [
            ([], [], None), (units(2), [], None), (units(1), [(2,)], None), ([], [(2,)], [1]), (units(1), [(0,)], [1]),
            (units(0), [()], [1]), (units(1), [(2,), (-3,)], [3, 2]), (units(2), [(1, 0), (0, 1)], None),
            (units(2), [(1, 0), (0, 1), (-2, -3)], [2, 3, 1]), ([(1, 1)], [(1, 0), (1, -1)], [0, 1]),
            (units(2), [(1, 0), (1, 1), (-2, 0)], [2, 0, 1]), ([(1, 1)], [(2, 0), (0, -3)], [3, 2]),
        ]:
            self.same(self.answer(clash, lines, rows), numbers)

    def test_clashes(self):
        chance = Random(62)
        seen = []
        for many in (1, 2, 3, 4, 5, 6) * 10:
            for length in (1, 4, 8, 9):
                rows = [tuple(chance.randint(-2, 3) for _ in range(many)) for _ in range(length)]
                lines = [tuple(chance.randint(-2, 2) for _ in range(many)) for _ in range(chance.randint(0, many))]
                lines = lines if plain_rank(lines) == len(lines) else units(many)
                numbers = self.answer(clash, lines, rows)
                seen.append(numbers is None)
                if numbers is None:
                    _, rays = cone(lines, rows)
                    whole = mixture(rays, [1] * len(rays), many)
                    self.assertTrue(all(dot(row, whole) > 0 for row in rows))
                else:
                    self.assertTrue(any(numbers) and min(numbers) >= 0)
                    self.assertEqual(len(numbers), len(rows))
                    whole = mixture(rows, numbers, many)
                    self.assertTrue(all(dot(line, whole) == 0 for line in lines))
        self.assertGreater(seen.count(True), 20)
        self.assertGreater(seen.count(False), 20)
