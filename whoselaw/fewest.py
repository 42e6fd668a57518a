"""Fewest turns: which rules have to be turned so that all courts are alike, or why so few won't do."""

from whoselaw.clashes import clashes_hold, turns_due
from whoselaw.errors import NoTurn
from whoselaw.lands import is_rule
from whoselaw.shapes import is_number, is_tuple, rises
from whoselaw.trees import answer_of
from whoselaw.turns import all_alike, first_clash, turned


def fewest_turns(lands, table, number):
    tree = None
    for many in range(number + 1):
        # No row of fewer turns does it, as the tree of the round before shows.
        turns, clash = turns_or_clash(lands, table, many, ())
        if turns is not None:
            return ("turns", tuple(sorted(turns)), tree)
        tree = clash
    return ("none", tree)


def turns_or_clash(lands, table, number, passed):
    """(turns, None), turns being passed and at most so many more by which the lands are alike, or (None, tree)."""
    found = first_clash(lands, table)
    if found is None:
        return passed, None
    case, one, other = found
    due = turns_to_try(lands, table[case], (one, other), passed) if number > 0 else []
    branches = []
    for turn in due:
        turns, tree = turns_or_clash(turned(lands, (turn,)), table, number - 1, passed + (turn,))
        if turns is not None:
            return turns, None
        branches.append((turn, tree))
    return None, ("clash", case, one, other, tuple(branches))


def turns_to_try(lands, case, courts, passed):
    """The turns that a tree of clashes has to go through where these courts clash in the case."""
    book, question = case
    sides = [(court, answer_of(lands, book, court, question)[1]) for court in courts]
    return turns_due(lands, question, sides, passed)


def fewest_holds(lands, table, number, thing):
    if is_tuple(thing, 2, 2):
        return thing[0] == "none" and clashes_hold(lands, table, number, thing[1])
    if not is_tuple(thing, 3, 3) or thing[0] != "turns":
        return False
    turns, tree = thing[1:]
    if not are_turns(lands, turns, number) or not alike_by(lands, table, turns):
        return False
    if not turns:
        return tree is None
    return clashes_hold(lands, table, len(turns) - 1, tree)


def are_turns(lands, thing, most):
    """Whether thing is a rising tuple of at most so many turns, no two of one rule, be there such rules or not."""
    if not is_tuple(thing, 0, most):
        return False
    return all([is_turn(lands, turn) for turn in thing]) and rises([turn[:3] for turn in thing])


def is_turn(lands, thing):
    # Behind its land a turn has the parts of a rule.
    return is_tuple(thing, 5, 5) and is_number(thing[0], 0, len(lands) - 1) and is_rule(thing[1:])


def alike_by(lands, table, turns):
    """Whether there are rules for these turns, and the lands are alike by them."""
    try:
        return all_alike(turned(lands, turns), table)
    except NoTurn:
        return False
