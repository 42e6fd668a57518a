"""Many lands and books, thrown with a seed, so that each run has the same ones."""

import random

from whoselaw.errors import LawError

LAST_WORLD_DAY = 4
ONES = 5
# How many ones the books of full worlds know of: the last three are held by others more often.
FOLK = 8


def thrown_worlds(many, seed):
    dice = random.Random(seed)
    return [thrown_world(dice) for _ in range(many)]


def thrown_world(dice):
    many = dice.randrange(1, 6)
    lands = tuple(thrown_land(dice) for _ in range(many))
    return lands, thrown_book(dice, many)


def thrown_land(dice):
    rules = {}
    customs = {}
    # Some lands have few rules, so that chains end in each way.
    for _ in range(dice.choice((0, 6, 12, 12))):
        way = dice.choice((0, 1, 2, 2, 2))
        rules[(dice.randrange(4), thrown_day(dice))] = (dice.randrange(3), way)
    for _ in range(dice.choice((3, 8, 12))):
        kind = dice.randrange(4)
        customs[(kind, thrown_day(dice))] = (thrown_saying(dice, kind, 3),)
    return (rows(rules), rows(customs), (), (), ())


def thrown_day(dice):
    return dice.choice((0, 0, 0, 1, 2, 3, LAST_WORLD_DAY))


def thrown_saying(dice, kind, asks):
    if kind == 0 or asks == 0 or dice.randrange(4) == 0:
        return ("say", dice.choice((0, 0, 1, 2, 9)))
    whose = dice.choice((None, 0, 1, 2, 3))
    yes = thrown_saying(dice, kind, asks - 1)
    no = thrown_saying(dice, kind, asks - 1)
    return ("ask", dice.randrange(kind), whose, dice.randrange(2), yes, no)


def thrown_book(dice, many):
    facts = {}
    for _ in range(dice.choice((10, 40, 60))):
        who, other = dice.sample(range(ONES), 2)
        at = ("with", other) if dice.randrange(3) == 0 else ("in", dice.randrange(many))
        facts[(who, dice.randrange(4), thrown_day(dice))] = (at,)
    return rows(facts)


def rows(table):
    return tuple(key + table[key] for key in sorted(table))


def asked(lands, kinds=range(4), days=(0, 2, LAST_WORLD_DAY)):
    """Courts and questions: all ones that the books know of, and one that they don't."""
    return [
        (court, (kind, who, day))
        for court in range(len(lands)) for kind in kinds for who in range(ONES + 1) for day in days
    ]


def thrown_calls(many, seed):
    """Lands, book, court and question of all that is asked in that many worlds."""
    return [
        (lands, book, court, question)
        for lands, book in thrown_worlds(many, seed) for court, question in asked(lands)
    ]


def shuffled(many, seed):
    """The places of so many calls, in another order."""
    order = list(range(many))
    random.Random(seed).shuffle(order)
    return order


def full_worlds(many, seed):
    """Lands with heirs, takes and reaches too, and books in which things are held and ones have kin."""
    dice = random.Random(seed)
    return [full_world(dice) for _ in range(many)]


def full_world(dice):
    many = dice.randrange(1, 6)
    lands = tuple(full_land(dice, number, many) for number in range(many))
    return lands, full_book(dice, many)


def full_land(dice, number, many):
    rules, customs = thrown_land(dice)[:2]
    heirs = {(thrown_day(dice),): (thrown_ranks(dice),) for _ in range(dice.choice((0, 1, 1, 2, 3)))}
    takes = {}
    reaches = {}
    others = [other for other in range(many) if other != number]
    for _ in range(dice.choice((0, 4, 12)) if others else 0):
        takes[(dice.choice(others), thrown_day(dice))] = (dice.choice((0, 1, 1)),)
    for _ in range(dice.choice((0, 6, 12))):
        reaches[(dice.randrange(4), thrown_day(dice))] = (dice.randrange(3),)
    return (rules, customs, rows(heirs), rows(takes), rows(reaches))


def thrown_ranks(dice):
    return tuple(
        tuple(thrown_call(dice) for _ in range(dice.randrange(1, 4))) for _ in range(dice.randrange(1, 4))
    )


def thrown_call(dice):
    kind = dice.choice((None, 0, 1, 2, 3))
    mode = 0 if kind is None else dice.randrange(2)
    return (dice.randrange(3), dice.randrange(1, 10), kind, mode)


def full_book(dice, many):
    facts = {}
    for _ in range(dice.choice((20, 60, 60))):
        who = dice.randrange(FOLK)
        role = 3 if who > ONES and dice.randrange(3) else dice.randrange(4)
        # Few are held by or kin of many, so that there is something to deal out and somebody to deal it to.
        other = dice.choice([one for one in (0, 0, 0, 1, 2, 3, 6) if one != who])
        at = ("in", dice.randrange(many)) if dice.randrange(3) == 0 else ("with", other)
        facts[(who, role, thrown_day(dice))] = (at,)
    return rows(facts)


def thrown_roll(dice, many):
    """Judgments on few things between few ones, so that there is each sort of verdict."""
    judgments = {}
    for _ in range(dice.choice((0, 5, 30))):
        thing = dice.choice((6, 6, 7, 7, 1))
        winner, loser = dice.sample([one for one in (0, 1, 2) if one != thing], 2)
        judgments[(thrown_day(dice), dice.randrange(many), thing)] = (winner, loser)
    return rows(judgments)


def thrown_opens(dice, many, most=64):
    """Opens of at most so many fillings."""
    found = {}
    for _ in range(dice.randrange(6)):
        who = dice.randrange(ONES)
        choices = [("no",)] + [("in", number) for number in range(many)]
        choices += [("with", one) for one in range(ONES + 1) if one != who]
        options = tuple(sorted(dice.sample(choices, dice.randrange(1, min(6, len(choices)) + 1))))
        key = (who, dice.randrange(4))
        if key not in found and len(options) <= most:
            found[key] = (options,)
            most //= len(options)
    return rows(found)


def thrown_courts(dice, many):
    """Some of the lands, in any order."""
    return tuple(dice.sample(range(many), dice.randrange(1, many + 1)))


def thrown_hangings(many, seed, most=64):
    """Calls of settling whose answers hang on several opens, of so many fillings at the most."""
    dice = random.Random(seed)
    return [thrown_hanging(dice, most) for _ in range(many)]


def thrown_hanging(dice, most):
    many = dice.randrange(1, 4)
    lands = tuple(hanging_land(dice) for _ in range(many))
    opens = {}
    for who, role in dice.sample([(1, 0), (1, 1), (1, 2), (1, 3), (2, 0), (2, 3)], dice.choice((1, 4, 5, 5))):
        options = [dice.choice((("no",), ("in", dice.randrange(many)))), ("with", who + 1), ("with", 9), ("with", 0)]
        options = tuple(sorted(options[:dice.choice((1, 2, 2, 2, 2, 3, 4))]))
        if len(options) <= most:
            opens[(who, role)] = (options,)
            most //= len(options)
    filling = tuple(dice.choice(options) for _, (options,) in sorted(opens.items()))
    book = thrown_book(dice, many)[:50]
    return lands, book, (dice.randrange(1, 4), 1, LAST_WORLD_DAY), dice.randrange(many), rows(opens), filling


def hanging_land(dice):
    """A land whose customs ask about others, each way down by unlike roles."""
    rules = {(kind, 0): (dice.randrange(3), dice.randrange(3)) for kind in range(4) if dice.randrange(4) == 0}
    customs = {(0, 0): (("say", dice.choice((0, 1, 1, 1, 1))),)}
    for kind in (1, 2, 3):
        customs[(kind, 0)] = (hanging_saying(dice, kind, dice.sample(range(4), 3)),)
    return (rows(rules), rows(customs), (), (), ())


def hanging_saying(dice, kind, roles):
    if not roles:
        return ("say", dice.choice((0, 1, 1, 3)))
    yes, no = (hanging_saying(dice, kind, roles[1:]) for _ in range(2))
    return ("ask", dice.choice((0, kind - 1)), roles[0], dice.randrange(2), yes, no)


def thrown_tables(many, seed, most=3, cases=6):
    """Lands with at most so many rules in all, and tables of at most so many cases."""
    dice = random.Random(seed)
    return [thrown_table(dice, most, cases) for _ in range(many)]


def thrown_table(dice, most, cases):
    if dice.randrange(3) == 0:
        return clear_table(dice, most, cases)
    many = dice.choice((1, 2, 2, 2, 3, 3, 3, 4, 5))
    rules = [{} for _ in range(many)]
    for _ in range(dice.choice((most, most, dice.randrange(most + 1)))):
        rules[dice.randrange(many)][(dice.choice((0, 0, 0, 1)), dice.choice((0, 0, 3)))] = (
            dice.randrange(3), dice.randrange(3),
        )
    lands = tuple(table_land(dice, each) for each in rules)
    table = tuple(thrown_case(dice, many) for _ in range(dice.choice((1, 1, 2, cases))))
    return lands, table


def table_land(dice, rules):
    customs = {(0, 0): (("say", dice.randrange(1, 4)),)}
    if dice.randrange(2):
        customs[(1, 0)] = (hanging_saying(dice, 1, dice.sample(range(4), 2)),)
    return (rows(rules), rows(customs), (), (), ())


def thrown_case(dice, many):
    """A book and a question, mostly of ones whose roles are in lands."""
    facts = {}
    for who in range(3):
        for role in range(4):
            at = ("with", (who + 1) % 4) if dice.randrange(6) == 0 else ("in", dice.randrange(many))
            if dice.randrange(6):
                facts[(who, role, dice.choice((0, 0, 2)))] = (at,)
    return rows(facts), (dice.choice((0, 0, 0, 1)), dice.randrange(3), dice.choice((0, 2, LAST_WORLD_DAY)))


def clear_table(dice, most, cases):
    """Three lands of unlike customs, in which each role leads to another one: turns can make them alike."""
    rules = [{} for _ in range(3)]
    for number in dice.sample(range(3), min(most, dice.choice((2, 2, 3)))):
        rules[number][(0, 0)] = (dice.randrange(3), dice.randrange(3))
    lands = tuple((rows(each), ((0, 0, ("say", number)),), (), (), ()) for number, each in enumerate(rules))
    place = dice.sample(range(3), 3)
    table = ()
    for who in range(dice.choice((1, 2, cases))):
        # The ones' roles are in the same lands, so that one row of turns can do for all cases.
        book = tuple((who, role, 0, ("in", place[role])) for role in range(3))
        table += ((book, (0, who, dice.randrange(LAST_WORLD_DAY + 1))),)
    return lands, table


def thrown_deed(dice, realm, folk):
    """Some deed to the one or the other, if it isn't refused."""
    lands = realm.lands()
    number = dice.randrange(len(lands))
    try:
        if dice.randrange(2):
            rule = (dice.randrange(4), dice.randrange(4), dice.randrange(3), dice.randrange(3))
            if dice.randrange(3):
                realm.put_rule(number, rule)
            else:
                realm.drop_rule(number, *rule[:2])
        elif dice.randrange(2):
            who = dice.randrange(5)
            at = dice.choice((("in", number), ("in", number), ("with", (who + 1) % 5)))
            folk.put((who, dice.randrange(4), dice.randrange(5), at))
        else:
            folk.drop(*dice.choice(folk.book() or ((0, 0, 0, 0),))[:3])
    except LawError:
        pass
