"""Opens: pairs of which it isn't known where they stand, and books with them filled."""

from whoselaw.facts import LAST_ONE, is_place
from whoselaw.lands import LAST_ROLE
from whoselaw.shapes import is_number, is_tuple, rises, same

MOST_OPENS = 5
MOST_OPTIONS = 6
MOST_FILLINGS = 64
# The option by which nothing stands.
NOWHERE = ("no",)


def is_opens(lands, thing):
    if not is_tuple(thing, 0, MOST_OPENS) or not all([is_unknown(lands, row) for row in thing]):
        return False
    fillings = 1
    for row in thing:
        fillings *= len(row[2])
    return fillings <= MOST_FILLINGS and rises([row[:2] for row in thing])


def is_unknown(lands, thing):
    """Whether thing is one of the opens."""
    if not is_tuple(thing, 3, 3):
        return False
    who, role, options = thing
    return (
        is_number(who, 0, LAST_ONE)
        and is_number(role, 0, LAST_ROLE)
        and is_tuple(options, 1, MOST_OPTIONS)
        and all([is_option(lands, who, option) for option in options])
        and rises(options)
    )


def is_option(lands, who, thing):
    return same(NOWHERE, thing) or is_place(lands, who, thing)


def is_filling(opens, thing):
    """Whether thing has one option of each of the opens, in order."""
    if not is_tuple(thing, len(opens), len(opens)):
        return False
    return all([is_option_of(row, option) for row, option in zip(opens, thing)])


def is_option_of(row, thing):
    return any([same(option, thing) for option in row[2]])


def filled(book, opens, filling, day):
    pairs = [row[:2] for row in opens]
    facts = [fact for fact in book if fact[:2] not in pairs]
    for pair, option in zip(pairs, filling):
        if option != NOWHERE:
            facts.append(pair + (day, option))
    return tuple(sorted(facts))
