"""Texts: books and rules as rows of words, and books read from them."""

from whoselaw.errors import NoText
from whoselaw.facts import is_book
from whoselaw.lands import RULES, WAYS

# No number that is due anywhere has more figures.
MOST_FIGURES = 10


def book_text(book):
    return "\n".join([f"{who} {role} {day} {word} {number}" for who, role, day, (word, number) in book])


def read_book(lands, thing):
    if not isinstance(thing, str):
        raise NoText()
    rows = thing.split("\n") if thing else []
    book = tuple([fact_in(row) for row in rows])
    if not is_book(lands, book):
        raise NoText()
    return book


def fact_in(row):
    """The fact of a row of text; what is no fact, where it isn't a fact's row."""
    words = row.split(" ")
    if len(words) != 5:
        return None
    who, role, day, number = [number_in(word) for word in words[:3] + words[4:]]
    return (who, role, day, (words[3], number))


def number_in(word):
    """The number of one to ten figures without noughts ahead; None, where the word isn't one."""
    # The length is looked at first: Python refuses to read thousands of figures.
    if len(word) > MOST_FIGURES or not word.isascii() or not word.isdigit():
        return None
    if len(word) > 1 and word[0] == "0":
        return None
    return int(word)


def rules_text(lands):
    rows = []
    for land, parts in enumerate(lands):
        rows.extend([f"{land} {kind} {since} {role} {WAYS[way]}" for kind, since, role, way in parts[RULES]])
    return "\n".join(rows)
