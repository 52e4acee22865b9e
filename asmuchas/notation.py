"""Notation: sums, pairs, tellings, entries, books and worths as texts."""

SIGNS = {"alike": " = ", "heavier": " > ", "unlike": " != "}


def show_sum(one):
    """Return the text of a sum."""
    return " + ".join(one) if one else "0"


def show_pair(pair):
    """Return the text of a pair."""
    return " ? ".join([show_sum(one) for one in pair])


def show_telling(telling):
    """Return the text of a telling."""
    word, one, other = telling
    return show_sum(one) + SIGNS[word] + show_sum(other)


def show_entry(entry):
    """Return the text of an entry: a telling, or a strike."""
    if entry[0] == "strike":
        return f"strike {entry[1]}"
    return show_telling(entry)


def _headed(things, lines):
    """Return a line with the things, and further lines."""
    return "\n".join([" ".join(["things", *things]), *lines])


def show_told(told):
    """Return the text of a Told: its things, and a line for each telling."""
    return _headed(told.things, [show_telling(telling) for telling in told])


def show_book(book):
    """Return the text of a Book: its things, and a line for each entry."""
    return _headed(book.things, [show_entry(entry) for entry in book])


def show_worths(worths):
    """Return the text of worths."""
    return ", ".join([f"{name} {worths[name]}" for name in sorted(worths)])
