"""Realms and folks: lands whose rules change, and books to which facts are told."""

from whoselaw.errors import NoFact, NoRule, NotTold, TooMany, Twice
from whoselaw.facts import MOST_FACTS, is_fact
from whoselaw.lands import MOST_ROWS, RULES, is_rule, rule_since, with_rules
from whoselaw.shapes import is_number, same


class Realm:
    """Lands, with the rules that were laid and taken back."""

    def __init__(self, lands):
        self.now = lands

    def lands(self):
        return self.now

    def put_rule(self, land, rule):
        if not is_number(land, 0, len(self.now) - 1) or not is_rule(rule):
            raise NoRule()
        others = [each for each in self.now[land][RULES] if each[:2] != rule[:2]]
        if len(others) >= MOST_ROWS:
            raise TooMany()
        self.now = with_rules(self.now, land, tuple(sorted(others + [rule])))

    def drop_rule(self, land, kind, since):
        rule = rule_since(self.now, land, kind, since)
        if rule is None:
            raise NotTold()
        others = [each for each in self.now[land][RULES] if each != rule]
        self.now = with_rules(self.now, land, tuple(others))


class Folk:
    """A book of a realm's lands, with the facts that were told and taken back."""

    def __init__(self, realm):
        self.realm = realm
        self.facts = ()

    def put(self, fact):
        if not is_fact(self.realm.lands(), fact):
            raise NoFact()
        if fact[:3] in [each[:3] for each in self.facts]:
            raise Twice()
        if len(self.facts) >= MOST_FACTS:
            raise TooMany()
        self.facts = tuple(sorted(self.facts + (fact,)))

    def drop(self, who, role, day):
        others = [each for each in self.facts if not same(each[:3], (who, role, day))]
        if len(others) == len(self.facts):
            raise NotTold()
        self.facts = tuple(others)

    def book(self):
        return self.facts
