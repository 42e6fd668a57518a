"""Many lands and books, thrown with a seed, so that each run has the same ones."""

import random

LAST_WORLD_DAY = 4
ONES = 5


def thrown_worlds(many, seed):
    dice = random.Random(seed)
    return [thrown_world(dice) for _ in range(many)]


def thrown_world(dice):
    many = dice.randrange(1, 6)
    lands = tuple(thrown_land(dice) for _ in range(many))
    return lands, thrown_book(dice, many)


def thrown_land(dice):
    rules = {}
    customs = {}
    # Some lands have few rules, so that chains end in each way.
    for _ in range(dice.choice((0, 6, 12, 12))):
        way = dice.choice((0, 1, 2, 2, 2))
        rules[(dice.randrange(4), thrown_day(dice))] = (dice.randrange(3), way)
    for _ in range(dice.choice((3, 8, 12))):
        kind = dice.randrange(4)
        customs[(kind, thrown_day(dice))] = (thrown_saying(dice, kind, 3),)
    return (rows(rules), rows(customs), (), (), ())


def thrown_day(dice):
    return dice.choice((0, 0, 0, 1, 2, 3, LAST_WORLD_DAY))


def thrown_saying(dice, kind, asks):
    if kind == 0 or asks == 0 or dice.randrange(4) == 0:
        return ("say", dice.choice((0, 0, 1, 2, 9)))
    whose = dice.choice((None, 0, 1, 2, 3))
    yes = thrown_saying(dice, kind, asks - 1)
    no = thrown_saying(dice, kind, asks - 1)
    return ("ask", dice.randrange(kind), whose, dice.randrange(2), yes, no)


def thrown_book(dice, many):
    facts = {}
    for _ in range(dice.choice((10, 40, 60))):
        who, other = dice.sample(range(ONES), 2)
        at = ("with", other) if dice.randrange(3) == 0 else ("in", dice.randrange(many))
        facts[(who, dice.randrange(4), thrown_day(dice))] = (at,)
    return rows(facts)


def rows(table):
    return tuple(key + table[key] for key in sorted(table))


def asked(lands, kinds=range(4), days=(0, 2, LAST_WORLD_DAY)):
    """Courts and questions: all ones that the books know of, and one that they don't."""
    return [
        (court, (kind, who, day))
        for court in range(len(lands)) for kind in kinds for who in range(ONES + 1) for day in days
    ]


def thrown_calls(many, seed):
    """Lands, book, court and question of all that is asked in that many worlds."""
    return [
        (lands, book, court, question)
        for lands, book in thrown_worlds(many, seed) for court, question in asked(lands)
    ]


def shuffled(many, seed):
    """The places of so many calls, in another order."""
    order = list(range(many))
    random.Random(seed).shuffle(order)
    return order
