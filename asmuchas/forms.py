"""Forms: what is left of worths when neither a shift nor a stretch counts, and tellings that leave but one form."""

from asmuchas.errors import Unbalanced, Unlike
from asmuchas.freest import free, freest
from asmuchas.rows import shortened
from asmuchas.verdicts import check_stands
from asmuchas.worths import stretched


def form(worths):
    """Return the form of worths: the least is taken from each, and what is left is divided as far as it goes."""
    names = sorted(worths)
    least = min(worths.values(), default=0)
    return dict(zip(names, shortened(tuple([worths[name] - least for name in names]))))


def turned_about(worths):
    """Return the form of the worths with exchanged signs."""
    return form(stretched(worths, -1))


def same_form(one, other):
    """Return whether the forms of two worths are equal."""
    if sorted(one) != sorted(other):
        raise Unlike()
    return form(one) == form(other)


def has_one_form(told):
    """Return whether all worths that fit have one form, or this turned about."""
    if not told.is_balanced():
        raise Unbalanced()
    check_stands(told)
    left = free(told)
    # of balanced tellings one free worth is a shift of all things, and a second one a stretch of a single form; but
    # with no unlike telling, worths that are all alike fit as well
    return left < 2 or left == 2 and told.indexes("unlike") != []


def one_form(told):
    """Return the one form of all worths that fit, or this turned about, whichever is first; None if several are."""
    if not has_one_form(told):
        return None
    found = freest(told)
    return min([form(found), turned_about(found)], key=lambda worths: list(worths.values()))
