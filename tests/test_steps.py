"""Steps [25] and frames [26]."""

from random import Random

from asmuchas.rows import dot, mixture, times
from asmuchas.steps import frame, held_steps, is_made, multipliers, rank, steps
from tests.helpers import Case, box, plain_rank, plainly_held

GREAT = [
    (30, -29, 28, 27, -26, 25), (-30, 30, 29, 1, 7, 11), (13, 17, -19, 23, 29, -30), (30, 30, 30, -30, 30, 30),
    (2, 3, 5, 7, 11, 13), (-17, 4, 0, 0, 21, 30), (1, 0, 0, 0, 0, 29), (30, -30, 30, -30, 30, -30),
]


def samples():
    """Return many lists of rows, each with how many integers its rows have."""
    chance = Random(25)
    found = [([], 0), ([], 3), ([()], 0), ([(), ()], 0), ([(0, 0)], 2), ([(1, 2), (1, 2)], 2), ([(-4,), (6,)], 1)]
    found += [(GREAT, 6), (GREAT[:5], 6), (GREAT[:3] + GREAT[:3], 6), (list(reversed(GREAT)), 6)]
    for most in (1, 3, 30):
        for many in range(1, 7):
            for length in (1, 2, 4, 8):
                rows = [tuple(chance.randint(-most, most) for _ in range(many)) for _ in range(length)]
                found.append((rows, many))
                found.append(([times(rows[0], 2)] + rows[:2] + [times(rows[0], -3)], many))
    return found


class Steps(Case):
    def check_form(self, made, many):
        """Check that rows are steps of some rows."""
        places = [next(place for place, part in enumerate(row) if part != 0) for row in made]
        self.assertEqual(places, sorted(set(places)))
        for at, (row, place) in enumerate(zip(made, places)):
            self.assertIsInstance(row, tuple)
            self.assertEqual(len(row), many)
            self.assertGreaterEqual(row[place], 1)
            for above in made[:at]:
                self.assertIn(above[place], range(row[place]))

    def check_made(self, rows, row):
        """Check that a row is made, by the numbers with which it is."""
        numbers = self.answer(multipliers, rows, row)
        self.assertIsInstance(numbers, list)
        self.assertEqual(len(numbers), len(rows))
        self.same(mixture(rows, numbers, len(row)), row)
        self.same(self.answer(is_made, rows, row), True)

    def test_examples(self):
        self.same(self.answer(steps, [(2, -1, -1, 0), (0, 2, -2, 0)]), [(2, 1, -3, 0), (0, 2, -2, 0)])
        self.same(self.answer(steps, [(4, 1), (6, 1)]), [(2, 0), (0, 1)])
        self.same(self.answer(steps, [(-3, 5)]), [(3, -5)])
        self.same(self.answer(steps, [(0, 0, 5), (0, -2, 0), (7, 3, 9)]), [(7, 1, 4), (0, 2, 0), (0, 0, 5)])
        self.same(self.answer(steps, [(2, 4), (2, 4), (0, 0)]), [(2, 4)])

    def test_no_steps(self):
        for rows in ([], [()], [(), ()], [(0, 0, 0)], [(0,), (0,)]):
            self.same(self.answer(steps, rows), [])
            self.same(self.answer(rank, rows), 0)

    def test_steps_have_the_form_and_the_same_mixtures(self):
        for rows, many in samples():
            made = self.answer(steps, rows)
            self.check_form(made, many)
            self.same(self.answer(rank, rows), plain_rank(rows))
            self.assertEqual(len(made), plain_rank(rows))
            for row in made:
                self.check_made(rows, row)
            for row in rows:
                self.check_made(made, row)
            self.same(steps(made), made)
            self.same(steps(rows[::-1] + rows), made)

    def test_rows_that_are_made(self):
        chance = Random(26)
        for rows, many in samples():
            row = mixture(rows, [chance.randint(-9, 9) for _ in rows], many)
            self.check_made(rows, row)
            self.check_made(rows, times(row, -1))
        self.same(self.answer(multipliers, [(2, -1, -1, 0), (0, 2, -2, 0)], (4, 0, -4, 0)), [2, 1])
        self.same(self.answer(multipliers, [], (0, 0)), [])
        self.same(self.answer(multipliers, [], ()), [])
        self.assertEqual(len(self.answer(multipliers, [(), ()], ())), 2)
        self.check_made([(6, 0), (10, 0), (15, 0), (0, 1)], (-1000, 999))
        self.check_made([(10 ** 40, 1), (0, 10 ** 40)], (10 ** 79, 10 ** 79 + 10 ** 39))

    def test_rows_that_are_not_made(self):
        for rows, row in [
            ([], (1, 0)), ([(0, 0)], (0, 1)), ([(2, 0)], (1, 0)), ([(2, 0)], (0, 2)), ([(2, 2)], (2, -2)),
            ([(6, 0), (10, 0)], (3, 0)), ([(1, 1), (1, -1)], (1, 0)), ([(2, -1, -1, 0), (0, 2, -2, 0)], (1, 0, -1, 0)),
        ]:
            self.same(self.answer(multipliers, rows, row), None)
            self.same(self.answer(is_made, rows, row), False)

    def test_made_just_if_some_numbers_make_it(self):
        for rows in ([(2, 1), (1, 3)], [(2, -2), (-3, 3)], [(4, 2), (0, 3)], [(0, 2), (0, 2)]):
            reached = {mixture(rows, numbers, 2) for numbers in box(2, 20)}
            for row in box(2, 4):
                self.assertIs(is_made(rows, row), row in reached)
                self.assertIs(multipliers(rows, row) is not None, row in reached)


class Frames(Case):
    def test_examples(self):
        rows = [(2, -1, -1, 0), (0, 2, -2, 0)]
        self.same(self.answer(frame, rows, 4), [(1, 1, 1, 0), (0, 0, 0, 1)])
        self.same(self.answer(held_steps, rows, 4), [(1, 0, -1, 0), (0, 1, -1, 0)])
        self.same(self.answer(frame, [(2, 3)], 2), [(3, -2)])
        self.same(self.answer(held_steps, [(-6, 9)], 2), [(2, -3)])

    def test_no_rows_and_no_integers(self):
        for rows in ([], [(0, 0)], [(0, 0), (0, 0)]):
            self.same(self.answer(frame, rows, 2), [(1, 0), (0, 1)])
            self.same(self.answer(held_steps, rows, 2), [])
        for rows in ([], [()], [(), ()]):
            self.same(self.answer(frame, rows, 0), [])
            self.same(self.answer(held_steps, rows, 0), [])
        self.same(self.answer(frame, [(2, 0), (5, 7)], 2), [])
        self.same(self.answer(held_steps, [(2, 0), (5, 7)], 2), [(1, 0), (0, 1)])

    def test_frames_are_steps_of_as_many_rows_as_lack(self):
        for rows, many in samples():
            free = self.answer(frame, rows, many)
            held = self.answer(held_steps, rows, many)
            self.same(steps(free), free)
            self.same(steps(held), held)
            self.assertEqual(len(free), many - plain_rank(rows))
            self.assertEqual(len(held), plain_rank(rows))
            self.assertEqual({dot(one, row) for one in free for row in rows + held} - {0}, set())
            self.assertTrue(all(is_made(held, row) for row in rows))

    def test_frames_make_all_rows_that_give_noughts(self):
        for rows, many in samples():
            if many in (2, 3):
                free, held = frame(rows, many), held_steps(rows, many)
                for row in box(many, 3):
                    gives = {dot(row, one) for one in rows}
                    self.assertIs(is_made(free, row), gives <= {0})
                    self.assertIs(is_made(held, row), plainly_held(rows, row))
