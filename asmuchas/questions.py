"""Questions: how many open pairs the answers to a pair settle, and which pair is best asked."""

from asmuchas.orders import check_stands_all, stands_all, word_of
from asmuchas.words import telling_of


def _open_ones(told, some):
    """Return those of some pairs that are open."""
    return [pair for pair in some if word_of(told, pair) == "open"]


def settled(told, pair, some):
    """Return, for each word with which a pair can be answered, how many open ones of some pairs it settles."""
    check_stands_all(told)
    before = _open_ones(told, some)
    found = {}
    for word in ("alike", "heavier", "lighter"):
        further = told.with_telling(telling_of(word, pair))
        if stands_all(further):
            found[word] = len(before) - len(_open_ones(further, before))
    return found


def best_question(told, some):
    """Return the open one of some pairs of which the least answer settles most, with this number; None if none is."""
    check_stands_all(told)
    best = None
    for pair in _open_ones(told, some):
        least = min(settled(told, pair, some).values())
        if best is None or least > best[1]:
            best = pair, least
    return best
