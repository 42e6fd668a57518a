"""Estates: what somebody leaves, and what comes to each heir."""

from whoselaw.dealing import dealt
from whoselaw.dealpaper import lowest_terms
from whoselaw.facts import holdings


def left_by(lands, book, court, kind, who, day):
    things = holdings(book, who, day)
    return tuple([(thing, dealt(lands, book, court, kind, thing, day)[0]) for thing in things])


def totals(left, worths):
    worth_of = dict(worths)
    amounts = {}
    for thing, dealing in left:
        worth = worth_of.get(thing, 0)
        for heir, share in shares_of(dealing):
            amounts[heir] = with_share(amounts.get(heir, (0, 1)), worth, share)
    return tuple([(heir, amounts[heir]) for heir in sorted(amounts)])


def shares_of(dealing):
    """Each heir of a dealing, ("land", land) or ("one", one), with its share."""
    if dealing[0] == "land":
        return [(dealing, (1, 1))]
    return [(("one", one), share) for one, share in dealing[1]]


def with_share(amount, worth, share):
    """The amount and this share of the worth together."""
    above, below = amount
    part, whole = share
    return lowest_terms(above * whole + worth * part * below, below * whole)
