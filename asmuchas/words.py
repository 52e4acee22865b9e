"""What integers, names, sums, pairs and tellings are, and lists of sums and pairs."""

MOST_THINGS = 6
MOST_NAMES = 3
MOST_LETTERS = 8
WORDS = ("alike", "heavier", "unlike")


def is_integer(thing):
    """Return whether any value is an integer, which True and False are not."""
    return isinstance(thing, int) and not isinstance(thing, bool)


def are_integers(thing, many):
    """Return whether any value is a list of so many integers."""
    return isinstance(thing, list) and len(thing) == many and all([is_integer(part) for part in thing])


def is_rising(thing, least, most):
    """Return whether any value is an ascending list of different integers from least to most."""
    if not isinstance(thing, list) or not all([is_integer(part) for part in thing]):
        return False
    return thing == sorted(set(thing)) and (thing == [] or least <= thing[0] and thing[-1] <= most)


def is_name(thing):
    """Return whether any value is a string of one to eight lower-case letters."""
    if not isinstance(thing, str) or not 1 <= len(thing) <= MOST_LETTERS:
        return False
    return all(["a" <= letter <= "z" for letter in thing])


def _are_names(thing, most):
    """Return whether any value is a tuple of at most so many names, in any order."""
    if not isinstance(thing, tuple) or len(thing) > most:
        return False
    return all([is_name(part) for part in thing])


def are_things(thing):
    """Return whether any value is an ascending tuple of at most six different names."""
    return _are_names(thing, MOST_THINGS) and list(thing) == sorted(set(thing))


def is_sum(thing):
    """Return whether any value is an ascending tuple of at most three names."""
    return _are_names(thing, MOST_NAMES) and list(thing) == sorted(thing)


def is_pair(thing):
    """Return whether any value is a tuple of two sums."""
    if not isinstance(thing, tuple) or len(thing) != 2:
        return False
    return is_sum(thing[0]) and is_sum(thing[1])


def is_telling(thing):
    """Return whether any value is a tuple of a word that tells and two sums."""
    if not isinstance(thing, tuple) or len(thing) != 3:
        return False
    return isinstance(thing[0], str) and thing[0] in WORDS and is_pair(thing[1:])


def word_ahead(thing):
    """Return the string that stands first in any value that is a tuple, an empty one if there is none."""
    if not isinstance(thing, tuple) or len(thing) == 0 or not isinstance(thing[0], str):
        return ""
    return thing[0]


def telling_of(word, pair):
    """Return the tuple that tells a word, any value, of a pair: with lighter that the other sum is heavier."""
    one, other = pair
    if isinstance(word, str) and word == "lighter":
        return "heavier", other, one
    return word, one, other


def sum_of(names):
    """Return the sum of a list of names."""
    return tuple(sorted(names))


def sums(things, many):
    """Return the list of all sums of things with just so many names, in order."""
    found = [()]
    for _ in range(many):
        found = [one + (name,) for one in found for name in things if one == () or one[-1] <= name]
    return found


def in_order(some):
    """Return the sums of a list, those with fewer names first."""
    return sorted(some, key=lambda one: (len(one), one))


def pairs(things, many):
    """Return the list of the pairs of two different sums of so many names, the earlier one ahead."""
    some = sums(things, many)
    return [(one, other) for place, one in enumerate(some) for other in some[place + 1:]]
