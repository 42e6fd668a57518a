"""Verdicts: what becomes of the judgments on a thing by a land, and who holds it in the end."""

from whoselaw.facts import HOLDING, held_by, stands
from whoselaw.rolls import takes_over
from whoselaw.shapes import same


def verdicts(lands, book, roll, land, one, day):
    rows = []
    # The numbers of those that bind, as they were come to.
    bound = []
    for number, judgment in enumerate(roll):
        if judgment[2] == one:
            word, other = verdict_on(lands, book, roll, land, day, bound, judgment)
            rows.append((number, word, other))
            if word == "binds":
                bound.append(number)
    return tuple(rows)


def verdicts_hold(lands, book, roll, land, one, day, thing):
    return same(verdicts(lands, book, roll, land, one, day), thing)


def verdict_on(lands, book, roll, land, day, bound, judgment):
    """The word for a judgment, bound being those ahead of it that bind, and who settled it or None."""
    if judgment[0] > day:
        return "later", None
    if not takes_over(lands, land, judgment):
        return "strange", None
    other = settled_by(roll, bound, judgment)
    if other is not None:
        return "settled", other
    if held_behind(book, roll, bound, judgment[2], judgment[0]) not in judgment[3:]:
        return "no party", None
    return "binds", None


def settled_by(roll, bound, judgment):
    """The number of the first of those that bind with the same two parties; None, where there is none."""
    parties = sorted(judgment[3:])
    for number in bound:
        if sorted(roll[number][3:]) == parties:
            return number
    return None


def held_behind(book, roll, bound, one, day):
    """Who holds the thing behind the facts up to the day and those that bind; None for nobody."""
    if bound:
        last = roll[bound[-1]]
        # None binds but where somebody held the thing by a fact, so one stands. On one day
        # the fact comes first: only one of a later day undoes a judgment.
        if stands(book, (one, HOLDING), day)[2] <= last[0]:
            return last[3]
    return held_by(book, one, day)


def holder(lands, book, roll, land, one, day):
    rows = verdicts(lands, book, roll, land, one, day)
    bound = [number for number, word, other in rows if word == "binds"]
    return held_behind(book, roll, bound, one, day)


def parted(lands, book, roll, one, day):
    holders = [holder(lands, book, roll, land, one, day) for land in range(len(lands))]
    for low in range(len(lands)):
        for high in range(low + 1, len(lands)):
            if holders[low] != holders[high]:
                return (low, high)
    return None
