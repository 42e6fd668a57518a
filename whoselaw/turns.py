"""Turns: rules that get another role or way, and whether all courts are alike then."""

from whoselaw.errors import NoTurn
from whoselaw.lands import RULES, rule_since, with_rules
from whoselaw.trees import answer_of


def turned(lands, turns):
    for turn in turns:
        lands = turned_once(lands, turn)
    return lands


def turned_once(lands, turn):
    land, kind, since, role, way = turn
    rule = rule_since(lands, land, kind, since)
    if rule is None or rule[2:] == (role, way):
        raise NoTurn()
    new = (kind, since, role, way)
    return with_rules(lands, land, tuple([new if each == rule else each for each in lands[land][RULES]]))


def all_alike(lands, table):
    return first_clash(lands, table) is None


def first_clash(lands, table):
    """The first case, and two lands, one below other, whose courts are unlike in it; None, where there is none."""
    for case, (book, question) in enumerate(table):
        answer = answer_of(lands, book, 0, question)[0]
        for land in range(1, len(lands)):
            if answer_of(lands, book, land, question)[0] != answer:
                return case, 0, land
    return None
