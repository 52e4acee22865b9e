"""Weighing: numbers of tellings that show the word of a pair, and numbers against tellings that do not stand."""

from asmuchas.cones import clash
from asmuchas.freest import frame_of
from asmuchas.orders import check_stands_all, word_of, worths_for
from asmuchas.papers import shown, shown_unlike
from asmuchas.rows import mixture, row_of, times
from asmuchas.words import are_integers, is_integer, word_ahead
from asmuchas.worths import fits, word_in


def _spread(told, indexes, numbers):
    """Return a list of one number for each telling: some numbers at their indexes, 0 elsewhere."""
    spread = [0] * len(told)
    for index, number in zip(indexes, numbers):
        spread[index] = number
    return spread


def _pushed(told, further):
    """Return numbers of the tellings, and of further rows, with which their mixture is noughts, or None.

    Those of heavier tellings and of further rows are from 0 on, and not all 0; those of unlike tellings are 0.
    """
    rows = told.rows("heavier") + further
    weights = clash(frame_of(told), rows)
    if weights is None:
        return None
    # what gives noughts with the frame is held by the alike rows, which then make up for a multiple of it
    number, numbers = shown(told.rows("alike"), mixture(rows, weights, len(told.things)))
    weights = [part * number for part in weights]
    many = len(rows) - len(further)
    indexes = told.indexes("alike") + told.indexes("heavier")
    return _spread(told, indexes, [-part for part in numbers] + weights[:many]), weights[many:]


def _parted(told, index, number, numbers):
    """Return numbers of the tellings: an unlike one so many times, less the alike ones with numbers."""
    return _spread(told, told.indexes("alike") + [index], [-part for part in numbers] + [number])


def paper(told, pair):
    """Return a paper of a pair: its word and what shows it."""
    word, row = word_of(told, pair), row_of(told.things, pair)
    if word == "open":
        return word, worths_for(told, pair, -1), worths_for(told, pair, 0), worths_for(told, pair, 1)
    if word == "unlike":
        index, number, numbers = shown_unlike(told, [row])
        spread = _parted(told, index, number, numbers[:-1])
        return word, numbers[-1], spread, worths_for(told, pair, -1), worths_for(told, pair, 1)
    if word == "alike":
        number, numbers = shown(told.rows("alike"), row)
        return word, number, _spread(told, told.indexes("alike"), numbers)
    # that the pair is the other way about, or alike, cannot stand with the tellings
    sign = 1 if word == "heavier" else -1
    numbers, weights = _pushed(told, [times(row, -sign)])
    return word, sign * weights[0], numbers


def _numbers_of(told, word, numbers):
    """Return those of the numbers of all tellings that belong to the tellings with a word."""
    return [numbers[index] for index in told.indexes(word)]


def _is_only_alike(told, numbers):
    """Return whether the numbers of heavier and unlike tellings are 0."""
    return not any(_numbers_of(told, "heavier", numbers)) and not any(_numbers_of(told, "unlike", numbers))


def _is_push(told, numbers):
    """Return whether the numbers of unlike tellings are 0, those of heavier ones from 0 on and not all 0."""
    heavier = _numbers_of(told, "heavier", numbers)
    return any(heavier) and min(heavier) >= 0 and not any(_numbers_of(told, "unlike", numbers))


def _is_parting(told, numbers):
    """Return whether the numbers of heavier tellings are 0, and that of just one unlike telling is not."""
    unlike = _numbers_of(told, "unlike", numbers)
    return len(unlike) - unlike.count(0) == 1 and not any(_numbers_of(told, "heavier", numbers))


def _is_weighed(told, row, many, numbers):
    """Return whether many times row is the mixture of all tellings with numbers, both any values."""
    if not is_integer(many) or not are_integers(numbers, len(told)):
        return False
    rows = [row_of(told.things, (one, other)) for _, one, other in told]
    return times(row, many) == mixture(rows, numbers, len(row))


def _shows(told, pair, word, many, numbers):
    """Return whether many and numbers, any values, show a word of a pair."""
    if not _is_weighed(told, row_of(told.things, pair), many, numbers):
        return False
    if word == "alike":
        return many > 0 and _is_only_alike(told, numbers)
    if word == "unlike":
        return many != 0 and _is_parting(told, numbers)
    return (many > 0 if word == "heavier" else many < 0) and _is_push(told, numbers)


def _is_so_in(told, pair, word, thing):
    """Return whether any value is worths that fit in which the first sum of a pair has a word."""
    return fits(told, thing) and word_in(thing, pair) == word


def _shows_unlike(told, pair, thing):
    """Return whether a tuple of five parts shows that a pair is unlike, and that it is heavier or lighter."""
    word, many, numbers, less, more = thing
    if not _shows(told, pair, word, many, numbers):
        return False
    return _is_so_in(told, pair, "lighter", less) and _is_so_in(told, pair, "heavier", more)


def _shows_open(told, pair, thing):
    """Return whether a tuple of four parts shows that a pair is open."""
    _, less, same, more = thing
    if not _is_so_in(told, pair, "alike", same):
        return False
    return _is_so_in(told, pair, "lighter", less) and _is_so_in(told, pair, "heavier", more)


def is_paper(told, pair, thing):
    """Return whether any value is a paper of a pair."""
    check_stands_all(told)
    word = word_ahead(thing)
    if word in ("alike", "heavier", "lighter") and len(thing) == 3:
        return _shows(told, pair, word, thing[1], thing[2])
    if word == "unlike" and len(thing) == 5:
        return _shows_unlike(told, pair, thing)
    return word == "open" and len(thing) == 4 and _shows_open(told, pair, thing)


def against(told):
    """Return numbers of tellings that cannot stand together, or None if all tellings stand."""
    held = shown_unlike(told, [])
    if held is not None:
        index, number, numbers = held
        return _parted(told, index, number, numbers)
    pushed = _pushed(told, [])
    return None if pushed is None else pushed[0]


def is_against(told, thing):
    """Return whether any value is numbers of tellings that cannot stand together."""
    if not _is_weighed(told, (0,) * len(told.things), 1, thing):
        return False
    return _is_push(told, thing) or _is_parting(told, thing)
