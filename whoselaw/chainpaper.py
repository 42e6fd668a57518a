"""The small checker of chains, and what a chain that holds decides."""

from whoselaw.lands import WAYS, rule_at
from whoselaw.shapes import is_tuple, same
from whoselaw.trails import trail_holds


def chain_holds(lands, book, court, question, thing):
    if not isinstance(thing, tuple):
        return False
    passed = []
    coming = court
    for step in thing:
        if coming is None or not step_holds(lands, book, coming, question, step):
            return False
        passed.append(coming)
        coming = land_behind(step, passed)
    return coming is None


def step_holds(lands, book, land, question, thing):
    """Whether thing is the land's step for the question."""
    if not is_tuple(thing, 2, 4):
        return False
    word = thing[0]
    if word not in WAYS:
        # A course that is named is no step; its step has a way's word.
        return word != "named" and course_holds(lands, book, land, question, thing)
    if not course_holds(lands, book, land, question, ("named",) + thing[1:3]):
        return False
    kind, who, day = question
    if word != WAYS[rule_at(lands, land, kind, day)[3]]:
        return False
    if word != "taken":
        return len(thing) == 3
    return len(thing) == 4 and course_holds(lands, book, thing[2][1], question, thing[3])


def course_holds(lands, book, land, question, thing):
    """Whether thing is how the land's rule goes, whatever its way: none, open, self or named."""
    kind, who, day = question
    rule = rule_at(lands, land, kind, day)
    if rule is None:
        return same(("none", land), thing)
    if not is_tuple(thing, 3, 3):
        return False
    word, told, trail = thing
    if not same(land, told) or not trail_holds(book, (who, rule[2]), day, trail):
        return False
    return word == course_word(land, trail)


def course_word(land, trail):
    """The word of a land's course, where the trail of its rule is this one."""
    if trail[0] != "in":
        return "open"
    return "self" if trail[1] == land else "named"


def land_behind(step, passed):
    """The land whose step comes behind this one, passed being those that have one; None at the end."""
    if step[0] != "court" or step[2][1] in passed:
        return None
    return step[2][1]


def seat_and_source(lands, question, chain):
    last = chain[-1]
    word, land = last[:2]
    if word == "alone":
        return land, last[2][1]
    if word == "taken":
        return land, source_taken(last[3])
    if word == "court":
        eldest = eldest_of(lands, question, round_of(chain))
        return eldest, eldest
    return land, land


def source_taken(course):
    """The source of a step taken, whose next is this course."""
    return course[2][1] if course[0] == "named" else course[1]


def round_of(chain):
    """The lands of the round that the chain ends in."""
    passed = [step[1] for step in chain]
    first = chain[-1][2][1]
    return passed[passed.index(first):]


def eldest_of(lands, question, ring):
    """Of the lands of a round the one whose rule in force has the least since."""
    kind, who, day = question
    return min(ring, key=lambda land: (rule_at(lands, land, kind, day)[1], land))
