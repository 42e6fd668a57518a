"""The small checker of trees of clashes, and which turns these have to go through."""

from whoselaw.lands import LAST_RULE_ROLE, LAST_WAY, rule_since
from whoselaw.naming import named
from whoselaw.shapes import is_number, is_tuple, same
from whoselaw.trees import answer_of
from whoselaw.turns import turned


def clashes_hold(lands, table, number, thing):
    return clash_holds(lands, table, number, (), thing)


def clash_holds(lands, table, number, passed, thing):
    """Whether thing is a tree of clashes, where the turns in passed were made on the way down."""
    if not is_tuple(thing, 5, 5) or thing[0] != "clash":
        return False
    case, one, other, branches = thing[1:]
    if not is_number(case, 0, len(table) - 1) or not are_two(lands, one, other):
        return False
    book, question = table[case]
    low, near = answer_of(lands, book, one, question)
    high, far = answer_of(lands, book, other, question)
    if low == high:
        return False
    if number <= 0:
        return same((), branches)
    due = turns_due(lands, question, ((one, near), (other, far)), passed)
    if not same(tuple(due), turns_told(branches)):
        return False
    for turn, tree in branches:
        if not clash_holds(turned(lands, (turn,)), table, number - 1, passed + (turn,), tree):
            return False
    return True


def are_two(lands, one, other):
    """Whether these are two lands, one below other."""
    return is_number(other, 0, len(lands) - 1) and is_number(one, 0, other - 1)


def turns_told(thing):
    """The turns of branches; None, where thing isn't a tuple of tuples of two parts."""
    if not isinstance(thing, tuple) or not all([is_tuple(branch, 2, 2) for branch in thing]):
        return None
    return tuple([branch[0] for branch in thing])


def turns_due(lands, question, sides, passed):
    """The turns of each rule that a side's tree names and that isn't turned yet, rising.

    Sides are tuples (court, tree) of the question, passed the turns that were made on the way down.
    """
    rules = []
    for court, tree in sides:
        rules.extend(named(lands, question, court, tree)[0])
    done = [turn[:3] for turn in passed]
    return [turn for rule in sorted(set(rules)) if rule not in done for turn in turns_of(lands, rule)]


def turns_of(lands, key):
    """The eight turns of the rule that is told as (land, kind, since), rising."""
    land, kind, since = key
    rule = rule_since(lands, land, kind, since)
    return [
        key + (role, way)
        for role in range(LAST_RULE_ROLE + 1) for way in range(LAST_WAY + 1) if (role, way) != rule[2:]
    ]
