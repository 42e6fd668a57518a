"""Chains: from land to land, by each one's rule, until one decides or it goes round."""

from whoselaw.chainpaper import course_word, land_behind, seat_and_source
from whoselaw.lands import WAYS, rule_at
from whoselaw.trails import trail_of


def step_of(lands, book, land, question):
    course = course_of(lands, book, land, question)
    if course[0] != "named":
        return course
    kind, who, day = question
    trail = course[2]
    word = WAYS[rule_at(lands, land, kind, day)[3]]
    if word == "taken":
        return (word, land, trail, course_of(lands, book, trail[1], question))
    return (word, land, trail)


def course_of(lands, book, land, question):
    """How the land's rule goes, whatever its way: none, open, self or named."""
    kind, who, day = question
    rule = rule_at(lands, land, kind, day)
    if rule is None:
        return ("none", land)
    trail = trail_of(book, (who, rule[2]), day)
    return (course_word(land, trail), land, trail)


def chain_of(lands, book, court, question):
    steps = []
    passed = []
    coming = court
    while coming is not None:
        step = step_of(lands, book, coming, question)
        steps.append(step)
        passed.append(coming)
        coming = land_behind(step, passed)
    return tuple(steps)


def decided(lands, book, court, question):
    return seat_and_source(lands, question, chain_of(lands, book, court, question))
