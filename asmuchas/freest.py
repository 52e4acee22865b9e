"""The freest worths: those in which no more pairs are alike than in all worths that fit."""

from asmuchas.rows import outcome, row_of, stacked
from asmuchas.steps import frame
from asmuchas.verdicts import check_stands
from asmuchas.words import MOST_NAMES, sums
from asmuchas.worths import fits, worth


def frame_of(told):
    """Return the steps of which all rows of worths that fit the alike tellings are mixtures."""
    return frame(told.rows("alike"), len(told.things))


def free(told):
    """Return how many free worths the alike tellings leave."""
    return len(frame_of(told))


def freest(told):
    """Return worths that fit and part each pair that is not alike in all worths that fit."""
    check_stands(told)
    made = frame_of(told)
    greatest = max([abs(part) for row in made for part in row], default=0)
    # what a pair gives by dot with a row of the frame is below the base on both sides of 0: taken with powers of
    # the base, what it gives with several of them cannot cancel out
    base = 2 * MOST_NAMES * greatest + 1
    return dict(zip(told.things, stacked(made, base, len(told.things))))


def is_freest(told, thing):
    """Return whether any value is worths that fit with no more pairs alike than in all worths that fit."""
    check_stands(told)
    if not fits(told, thing):
        return False
    made = frame_of(told)
    some = [one for many in range(MOST_NAMES + 1) for one in sums(told.things, many)]
    outcomes = [outcome(row_of(told.things, (one, ())), made) for one in some]
    # sums with one outcome have one worth in all worths that fit: as many worths as outcomes keep all others apart
    return len(set([worth(thing, one) for one in some])) == len(set(outcomes))
