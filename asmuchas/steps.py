"""Steps: the one plain list of rows that has the same mixtures as a list of rows."""

from asmuchas.rows import taken, times


def first_place(row):
    """Return the place of the first part that is not 0, or the number of parts if all are 0."""
    place = 0
    while place < len(row) and row[place] == 0:
        place += 1
    return place


def units(many):
    """Return the rows of many integers with a 1 at one place and 0 at the others, by this place."""
    return [tuple([int(place == own) for place in range(many)]) for own in range(many)]


def turned(rows, many):
    """Return the list of what stands at each of many places in the rows, a row for each place."""
    return [tuple([row[place] for row in rows]) for place in range(many)]


def _less(row, step, place):
    """Return a row less so many steps that its part at the first place of the step is the least from 0 on."""
    number = row[place] // step[place]
    return taken(row, times(step, number)) if number != 0 else row


def _joined(step, row, place):
    """Return two rows with the mixtures of step and row, of which the second one has 0 at a place."""
    while row[place] != 0:
        step, row = row, taken(step, times(row, step[place] // row[place]))
    return step, row


def _lowered(some):
    """Return rows whose first places rise as steps: the first parts from 1 on, the parts above them low."""
    made = []
    for row in some:
        place = first_place(row)
        step = row if row[place] > 0 else times(row, -1)
        made = [_less(above, step, place) for above in made]
        made.append(step)
    return made


def _with_row(made, row):
    """Return the steps of some steps and a further row."""
    some = []
    left = row
    for step in made:
        # the row is carried down: where it begins further left than a step, the two change places
        place = min(first_place(step), first_place(left))
        upper, left = _joined(step, left, place)
        some.append(upper)
    if any(left):
        some.append(left)
    return _lowered(some)


def steps(rows):
    """Return the steps of a list of rows."""
    # lowering behind each row keeps the integers small that would else grow with each place
    made = []
    for row in rows:
        made = _with_row(made, row)
    return made


def rank(rows):
    """Return how many steps rows have."""
    return len(steps(rows))


def _left(made, row):
    """Return what is left of a row when each step is taken from it as often as it goes in: noughts if made."""
    left = row
    for step in made:
        left = _less(left, step, first_place(step))
    return left


def multipliers(rows, row):
    """Return a list of integers with which row is the mixture of rows, or None if it is not made."""
    many = len(row)
    # behind each row stands a count of the rows: it goes through the same steps and tells how often each was taken
    counted = [one + unit for one, unit in zip(rows, units(len(rows)))]
    left = _left(steps(counted), row + (0,) * len(rows))
    if any(left[:many]):
        return None
    return [-part for part in left[many:]]


def is_made(rows, row):
    """Return whether row is a mixture of rows."""
    return not any(_left(steps(rows), row))


def frame(rows, many):
    """Return the steps of all rows of many integers that give 0 by dot with each of rows."""
    # the parts ahead are what the row behind them gives by dot: only steps with noughts ahead are in question
    given = [ahead + unit for ahead, unit in zip(turned(rows, many), units(many))]
    return [step[len(rows):] for step in steps(given) if not any(step[:len(rows)])]


def held_steps(rows, many):
    """Return the steps of all held rows of many integers."""
    return frame(frame(rows, many), many)
