"""Rolls: the judgments of courts, and which of them a land takes over."""

from whoselaw.facts import LAST_ONE
from whoselaw.lands import LAST_DAY, take_at
from whoselaw.shapes import is_number, is_tuple, rises

MOST_JUDGMENTS = 30


def is_roll(lands, thing):
    if not is_tuple(thing, 0, MOST_JUDGMENTS):
        return False
    return all([is_judgment(lands, row) for row in thing]) and rises([row[:3] for row in thing])


def is_judgment(lands, thing):
    if not is_tuple(thing, 5, 5):
        return False
    day, court = thing[:2]
    ones = thing[2:]
    return (
        is_number(day, 0, LAST_DAY)
        and is_number(court, 0, len(lands) - 1)
        and all([is_number(one, 0, LAST_ONE) for one in ones])
        and len(set(ones)) == 3
    )


def takes_over(lands, land, judgment):
    day, court = judgment[:2]
    if court == land:
        return True
    take = take_at(lands, land, court, day)
    return take is not None and take[2] == 1
