"""Facts: what a book is, and what stands on a day."""

from whoselaw.lands import LAST_DAY, LAST_ROLE
from whoselaw.shapes import is_number, is_tuple, rises

LAST_ONE = 99
MOST_FACTS = 60
# The role by which a thing is with the one who holds it.
HOLDING = 3


def is_book(lands, thing):
    if not is_tuple(thing, 0, MOST_FACTS):
        return False
    return all([is_fact(lands, row) for row in thing]) and rises([row[:3] for row in thing])


def is_fact(lands, thing):
    """Whether thing is a fact that a book of these lands could have."""
    if not is_tuple(thing, 4, 4):
        return False
    who, role, day, at = thing
    return (
        is_number(who, 0, LAST_ONE)
        and is_number(role, 0, LAST_ROLE)
        and is_number(day, 0, LAST_DAY)
        and is_place(lands, who, at)
    )


def is_place(lands, who, thing):
    """Whether thing is in a land, or with another one than who."""
    if not is_tuple(thing, 2, 2):
        return False
    word, number = thing
    if word == "in":
        return is_number(number, 0, len(lands) - 1)
    return word == "with" and is_number(number, 0, LAST_ONE) and number != who


def stands(book, pair, day):
    # The book rises, so the place behind the last fact that isn't later can be sought by halves:
    # trails and trees look here so often that going through the whole book each time is slow.
    latest = pair + (day,)
    low = 0
    high = len(book)
    while low < high:
        middle = (low + high) // 2
        if book[middle][:3] <= latest:
            low = middle + 1
        else:
            high = middle
    if low > 0 and book[low - 1][:2] == pair:
        return book[low - 1]
    return None


def stood_with(book, role, one, day):
    ones = sorted({fact[0] for fact in book if fact[1] == role})
    return tuple([who for who in ones if stands_with(book, (who, role), one, day)])


def stands_with(book, pair, one, day):
    """Whether the pair stands with this one on the day."""
    fact = stands(book, pair, day)
    return fact is not None and fact[3] == ("with", one)


def held_by(book, thing, day):
    """The one who holds the thing on the day; None, where nobody does."""
    fact = stands(book, (thing, HOLDING), day)
    if fact is None or fact[3][0] == "in":
        return None
    return fact[3][1]


def holdings(book, who, day):
    """The things that this one holds on the day, rising."""
    return stood_with(book, HOLDING, who, day)
