"""Joins: what the tellings of one and of another one tell together."""

from asmuchas.orders import check_stands_all, word_of
from asmuchas.steps import rank


def tells_more(one, other):
    """Return whether both together hold a row of the things of one that one alone does not hold."""
    both = one | other
    rows = both.rows("alike")
    # of all that both hold, as much is of the things of one as is left when what it gives of other things is taken
    others = [tuple([part for name, part in zip(both.things, row) if name not in one.things]) for row in rows]
    return rank(rows) - rank(others) > rank(one.rows("alike"))


def news(one, other, some):
    """Return, of a list of pairs, those of which the word changes with the tellings of other, with both words."""
    both = one | other
    # if one does not stand, both together do not stand either
    check_stands_all(both)
    words = [(pair, word_of(one, pair), word_of(both, pair)) for pair in some]
    return [(pair, before, behind) for pair, before, behind in words if before != behind]
