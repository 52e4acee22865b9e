"""Readers: what the texts of asmuchas/notation.py tell. They let no other text by."""

from asmuchas.book import Book
from asmuchas.errors import NoTelling, NoText, Refused, TooMany, Wrong
from asmuchas.notation import SIGNS
from asmuchas.told import Told
from asmuchas.words import are_things, is_sum

MOST_FIGURES = 40


def _split(text, mark):
    """Return the parts of a text, any value, between marks."""
    if not isinstance(text, str):
        raise NoText()
    return text.split(mark)


def _halves(text, mark):
    """Return the two parts of a text, any value, beside a mark."""
    parts = _split(text, mark)
    if len(parts) != 2:
        raise NoText()
    return parts


def read_integer(text):
    """Return the integer of which a string is the text."""
    figures = text[1:] if text.startswith("-") else text
    if not 1 <= len(figures) <= MOST_FIGURES or not all(["0" <= figure <= "9" for figure in figures]):
        raise NoText()
    number = int(text)
    # noughts ahead, and a sign ahead of 0, are never shown
    if str(number) != text:
        raise NoText()
    return number


def read_sum(text):
    """Return the sum of which a value is the text."""
    names = _split(text, " + ")
    one = () if names == ["0"] else tuple(names)
    if not is_sum(one):
        raise NoText()
    return one


def read_pair(text):
    """Return the pair of which a value is the text."""
    one, other = _halves(text, " ? ")
    return read_sum(one), read_sum(other)


def read_telling(text):
    """Return the telling of which a value is the text."""
    for word, sign in SIGNS.items():
        parts = _split(text, sign)
        if len(parts) == 2:
            return word, read_sum(parts[0]), read_sum(parts[1])
    raise NoText()


def read_entry(text):
    """Return the entry of which a value is the text."""
    words = _split(text, " ")
    if len(words) == 2 and words[0] == "strike":
        return "strike", read_integer(words[1])
    return read_telling(text)


def _read_headed(text):
    """Return the things of which the first line of a text, any value, tells, and the list of the other lines."""
    lines = _split(text, "\n")
    words = lines[0].split(" ")
    things = tuple(words[1:])
    if words[0] != "things" or not are_things(things):
        raise NoText()
    return things, lines[1:]


def read_told(text):
    """Return the Told of which a value is the text."""
    things, lines = _read_headed(text)
    tellings = [read_telling(line) for line in lines]
    try:
        return Told(things, tellings)
    except Wrong:
        raise NoText()


def read_book(text):
    """Return the Book of which a value is the text, with nothing to be done again."""
    things, lines = _read_headed(text)
    book = Book(things)
    for entry in [read_entry(line) for line in lines]:
        try:
            book.do(entry)
        except (Wrong, NoTelling, TooMany, Refused):
            raise NoText()
    return book


def _worth_in(text):
    """Return the name and the worth of which a string tells."""
    name, number = _halves(text, " ")
    return name, read_integer(number)


def read_worths(text):
    """Return the worths of which a value is the text."""
    parts = [_worth_in(part) for part in _split(text, ", ") if text != ""]
    if not are_things(tuple([name for name, _ in parts])):
        raise NoText()
    return dict(parts)
