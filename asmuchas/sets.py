"""Sets of numbers, told as ascending lists or tuples, and which of them are the least of a kind."""


def _wider(sets, many):
    """Return the ascending lists of numbers below many with one more, greater, number behind one of the sets."""
    return [one + [index] for one in sets for index in range(one[-1] + 1 if one else 0, many)]


def is_within(less, one):
    """Return whether all parts of a list, or a tuple, stand in another one."""
    return all([part in one for part in less])


def least_sets(many, is_so):
    """Return the least sets of numbers below many of which something is so, shorter ones first, then ascending.

    What is so of a set must be so of each set around it, too.
    """
    found = []
    some = [[]]
    # a least set has no other one within it: it is a set of which it is not so, and one number more
    while some:
        others = []
        for one in some:
            if is_so(one):
                found.append(one)
            else:
                others.append(one)
        some = [one for one in _wider(others, many) if not any([is_within(less, one) for less in found])]
    return found


def is_least(one, is_so):
    """Return whether something is so of a set, and of none with one number less."""
    return is_so(one) and not any([is_so(one[:place] + one[place + 1:]) for place in range(len(one))])
