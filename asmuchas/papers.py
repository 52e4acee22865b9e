"""Papers of tellings without heavier ones: why a pair is alike, unlike or open."""

from asmuchas.divisors import divisor, is_held
from asmuchas.freest import freest
from asmuchas.rows import mixture, row_of, times
from asmuchas.steps import multipliers
from asmuchas.verdicts import check_stands, plain_word
from asmuchas.words import are_integers, is_integer, word_ahead
from asmuchas.worths import fits, word_in


def shown(rows, row):
    """Return the divisor of a held row, and numbers: so many times the row is the mixture of rows with these."""
    number = divisor(rows, row)
    return number, multipliers(rows, times(row, number))


def shown_unlike(told, further):
    """Return an index, a number and numbers, or None if no unlike telling is held.

    The row of the unlike telling with this index, so many times, is the mixture of the rows of the alike tellings
    and of further rows, in this order, with these numbers.
    """
    rows = told.rows("alike") + further
    for index, row in zip(told.indexes("unlike"), told.rows("unlike")):
        if is_held(rows, row):
            number, numbers = shown(rows, row)
            return index, number, numbers
    return None


def plain_paper(told, pair):
    """Return why a pair has its word."""
    word = plain_word(told, pair)
    if word == "open":
        return word, freest(told.with_telling(("alike", *pair))), freest(told)
    row = row_of(told.things, pair)
    if word == "alike":
        number, numbers = shown(told.rows("alike"), row)
        return word, number, numbers
    index, number, numbers = shown_unlike(told, [row])
    return word, index, number, numbers[-1], numbers[:-1]


def _is_shown(rows, row, number, numbers):
    """Return whether number, from 1 on, times row is the mixture of rows with numbers, both any values."""
    if not is_integer(number) or number < 1 or not are_integers(numbers, len(rows)):
        return False
    return times(row, number) == mixture(rows, numbers, len(row))


def _shows_alike(told, pair, paper):
    """Return whether a tuple of three parts shows that a pair is alike."""
    _, number, numbers = paper
    return _is_shown(told.rows("alike"), row_of(told.things, pair), number, numbers)


def _shows_unlike(told, pair, paper):
    """Return whether a tuple of five parts shows that a pair is unlike."""
    _, index, number, other, numbers = paper
    if not is_integer(index) or index not in told.indexes("unlike") or not isinstance(numbers, list):
        return False
    rows = told.rows("alike") + [row_of(told.things, pair)]
    return _is_shown(rows, row_of(told.things, told[index][1:]), number, numbers + [other])


def _shows_open(told, pair, paper):
    """Return whether a tuple of three parts shows that a pair is open."""
    _, same, apart = paper
    if not fits(told, same) or not fits(told, apart):
        return False
    return word_in(same, pair) == "alike" and word_in(apart, pair) != "alike"


def is_plain_paper(told, pair, thing):
    """Return whether any value is a tuple that shows the word of a pair."""
    check_stands(told)
    word = word_ahead(thing)
    if word == "alike" and len(thing) == 3:
        return _shows_alike(told, pair, thing)
    if word == "unlike" and len(thing) == 5:
        return _shows_unlike(told, pair, thing)
    return word == "open" and len(thing) == 3 and _shows_open(told, pair, thing)
