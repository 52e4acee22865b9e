"""Clocks: what is alike, unlike or open in worths of which only what is left by a size counts."""

from asmuchas.divisors import is_made_on, multipliers_on, through
from asmuchas.errors import NothingFits, Ordered
from asmuchas.rows import added, dot, mixture, row_of, times
from asmuchas.steps import frame, is_made, steps, units
from asmuchas.words import are_integers, word_ahead
from asmuchas.worths import are_worths_on, worth_on


def is_alike_on(told, pair, size):
    """Return whether a pair is alike in all worths on a clock of a size that fit the alike tellings."""
    return is_made_on(told.rows("alike"), row_of(told.things, pair), size)


def is_alike_on_all(told, pair):
    """Return whether a pair is alike in all worths on all clocks that fit the alike tellings."""
    return is_made(told.rows("alike"), row_of(told.things, pair))


def let_through(told, pair):
    """Return the powers of primes of which a size is a multiple just if some worths on its clock part a pair."""
    return through(told.rows("alike"), row_of(told.things, pair))


def _clock_frame(rows, many, size):
    """Return rows of many integers of which mixtures are all rows that give multiples of size by dot with rows."""
    # a part for each row tells how many times the size must be taken from what it gives
    wider = [row + times(unit, size) for row, unit in zip(rows, units(len(rows)))]
    return [row[:many] for row in frame(wider, many + len(rows))]


def parting_on(told, pair, size):
    """Return worths on a clock that fit the alike tellings and part a pair, or None if there are none."""
    row = row_of(told.things, pair)
    # if a mixture of rows parts the pair, one of these rows does
    for one in _clock_frame(steps(told.rows("alike")), len(told.things), size):
        if dot(row, one) % size != 0:
            return {name: part % size for name, part in zip(told.things, one)}
    return None


def clock_paper(told, pair, size):
    """Return why a pair is alike, or parted, in worths on a clock that fit the alike tellings."""
    made = multipliers_on(told.rows("alike"), row_of(told.things, pair), size)
    if made is None:
        return "parted", parting_on(told, pair, size)
    return "alike", *made


def _shows_alike(told, pair, size, paper):
    """Return whether a tuple of three parts shows that a pair is alike on a clock."""
    _, numbers, rest = paper
    alike, many = told.rows("alike"), len(told.things)
    if not are_integers(numbers, len(alike)) or not isinstance(rest, tuple) or not are_integers(list(rest), many):
        return False
    return added(mixture(alike, numbers, many), times(rest, size)) == row_of(told.things, pair)


def _shows_parted(told, pair, size, paper):
    """Return whether a tuple of two parts shows that a pair is parted on a clock."""
    _, worths = paper
    if not are_worths_on(told.things, size, worths):
        return False
    row = tuple([worths[name] for name in told.things])
    if dot(row_of(told.things, pair), row) % size == 0:
        return False
    return all([dot(one, row) % size == 0 for one in told.rows("alike")])


def is_clock_paper(told, pair, size, thing):
    """Return whether any value is a tuple that shows what a pair is on a clock."""
    word = word_ahead(thing)
    if word == "alike" and len(thing) == 3:
        return _shows_alike(told, pair, size, thing)
    return word == "parted" and len(thing) == 2 and _shows_parted(told, pair, size, thing)


def _that_end_at(rows, place):
    """Return, without the noughts behind it, the rows of which the last part that is not 0 stands at a place."""
    return [row[:place + 1] for row in rows if row[place] != 0 and not any(row[place + 1:])]


def _fits_rows(alike, unlike, row, size):
    """Return whether a row gives multiples of size by dot with alike rows, and none with unlike rows."""
    if any([dot(one, row) % size != 0 for one in alike]):
        return False
    return all([dot(one, row) % size != 0 for one in unlike])


def rows_on(alike, unlike, many, size):
    """Return all rows of many integers below size that fit alike and unlike rows on a clock, ascending."""
    if not all([any(row) for row in unlike]):
        return []
    found = [()]
    # a telling is asked as soon as the last part that it speaks of is there: what does not fit is not carried on
    for place in range(many):
        some, others = _that_end_at(alike, place), _that_end_at(unlike, place)
        wider = [row + (part,) for row in found for part in range(size)]
        found = [row for row in wider if _fits_rows(some, others, row, size)]
    return found


def all_worths_on(told, size):
    """Return the list of all worths on a clock that fit all tellings, ascending."""
    if told.is_ordered():
        raise Ordered()
    found = rows_on(told.rows("alike"), told.rows("unlike"), len(told.things), size)
    return [dict(zip(told.things, row)) for row in found]


def word_on(told, pair, size):
    """Return whether a pair is alike in all worths on a clock that fit all tellings, unlike, or open."""
    one, other = pair
    alike = [worth_on(worths, one, size) == worth_on(worths, other, size) for worths in all_worths_on(told, size)]
    if alike == []:
        raise NothingFits()
    if all(alike):
        return "alike"
    return "open" if any(alike) else "unlike"
