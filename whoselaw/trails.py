"""Trails: from one to another, by what stands, until a land is come to or none is."""

from whoselaw.facts import stands
from whoselaw.shapes import same


def trail_of(book, pair, day):
    one, role = pair
    facts = []
    # Each one is come through once at most, so the way comes to an end.
    passed = set()
    while True:
        fact = stands(book, (one, role), day)
        if fact is None:
            return ("open", one, tuple(facts))
        facts.append(fact)
        passed.add(one)
        word, number = fact[3]
        if word == "in":
            return ("in", number, tuple(facts))
        if number in passed:
            return ("round", number, tuple(facts))
        one = number


def trail_holds(book, pair, day, thing):
    return same(trail_of(book, pair, day), thing)
