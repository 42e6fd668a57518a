"""Lands: what they are, and which of their rows is in force."""

from whoselaw.shapes import is_none_or_number, is_number, is_tuple, rises, same

MOST_LANDS = 5
MOST_ROWS = 12
MOST_ASKS = 3
LAST_KIND = 3
LAST_DAY = 10 ** 9
LAST_ROLE = 3
# Rules, calls and reaches go by these roles only; role 3 says who holds a thing.
LAST_RULE_ROLE = 2
# The words of the ways, each at the place of its number.
WAYS = ("alone", "taken", "court")
LAST_WAY = 2
LAST_ANSWER = 9
LAST_WEIGHT = 9

# The places of a land's parts.
RULES = 0
CUSTOMS = 1
HEIRS = 2
TAKES = 3
REACHES = 4


def are_lands(thing):
    if not is_tuple(thing, 1, MOST_LANDS):
        return False
    return all([is_land(part, land, len(thing)) for land, part in enumerate(thing)])


def is_land(thing, land, many):
    """Whether thing is the land with the number land among that many."""
    if not is_tuple(thing, 5, 5):
        return False
    rules, customs, heirs, takes, reaches = thing
    return (
        are_rules(rules)
        and are_customs(customs)
        and are_heirs(heirs)
        and are_takes(takes, land, many)
        and are_reaches(reaches)
    )


def are_rules(thing):
    if not is_tuple(thing, 0, MOST_ROWS):
        return False
    return all([is_rule(row) for row in thing]) and rises([row[:2] for row in thing])


def are_customs(thing):
    if not is_tuple(thing, 0, MOST_ROWS):
        return False
    return all([is_custom(row) for row in thing]) and rises([row[:2] for row in thing])


def are_heirs(thing):
    if not is_tuple(thing, 0, MOST_ROWS):
        return False
    return all([is_heirs(row) for row in thing]) and rises([row[:1] for row in thing])


def are_takes(thing, land, many):
    if not is_tuple(thing, 0, MOST_ROWS):
        return False
    return all([is_take(row, land, many) for row in thing]) and rises([row[:2] for row in thing])


def are_reaches(thing):
    if not is_tuple(thing, 0, MOST_ROWS):
        return False
    return all([is_reach(row) for row in thing]) and rises([row[:2] for row in thing])


def is_rule(thing):
    if not is_tuple(thing, 4, 4):
        return False
    kind, since, role, way = thing
    return (
        is_number(kind, 0, LAST_KIND)
        and is_number(since, 0, LAST_DAY)
        and is_number(role, 0, LAST_RULE_ROLE)
        and is_number(way, 0, LAST_WAY)
    )


def is_custom(thing):
    if not is_tuple(thing, 3, 3):
        return False
    kind, since, saying = thing
    return (
        is_number(kind, 0, LAST_KIND)
        and is_number(since, 0, LAST_DAY)
        and is_saying(saying, kind, MOST_ASKS)
    )


def is_saying(thing, kind, asks):
    """Whether thing is a saying of this kind with at most so many asks on a way down."""
    if is_tuple(thing, 2, 2):
        return thing[0] == "say" and is_number(thing[1], 0, LAST_ANSWER)
    if asks == 0 or not is_tuple(thing, 6, 6):
        return False
    word, asked, whose, mode, yes, no = thing
    return (
        word == "ask"
        and is_number(asked, 0, kind - 1)
        and is_none_or_number(whose, 0, LAST_ROLE)
        and is_number(mode, 0, 1)
        and is_saying(yes, kind, asks - 1)
        and is_saying(no, kind, asks - 1)
    )


def is_heirs(thing):
    if not is_tuple(thing, 2, 2):
        return False
    since, ranks = thing
    return is_number(since, 0, LAST_DAY) and is_tuple(ranks, 1, 3) and all([is_rank(rank) for rank in ranks])


def is_rank(thing):
    return is_tuple(thing, 1, 3) and all([is_call(call) for call in thing])


def is_call(thing):
    if not is_tuple(thing, 4, 4):
        return False
    role, weight, kind, mode = thing
    last_mode = 0 if kind is None else 1
    return (
        is_number(role, 0, LAST_RULE_ROLE)
        and is_number(weight, 1, LAST_WEIGHT)
        and is_none_or_number(kind, 0, LAST_KIND)
        and is_number(mode, 0, last_mode)
    )


def is_take(thing, land, many):
    """Whether thing is a take of the land with the number land among that many."""
    if not is_tuple(thing, 3, 3):
        return False
    other, since, yes = thing
    return (
        is_number(other, 0, many - 1)
        and other != land
        and is_number(since, 0, LAST_DAY)
        and is_number(yes, 0, 1)
    )


def is_reach(thing):
    if not is_tuple(thing, 3, 3):
        return False
    kind, since, role = thing
    return (
        is_number(kind, 0, LAST_KIND)
        and is_number(since, 0, LAST_DAY)
        and is_number(role, 0, LAST_RULE_ROLE)
    )


def rule_at(lands, land, kind, day):
    return row_at(rows_of(lands, land, RULES), kind, day)


def custom_at(lands, land, kind, day):
    return row_at(rows_of(lands, land, CUSTOMS), kind, day)


def reach_at(lands, land, kind, day):
    return row_at(rows_of(lands, land, REACHES), kind, day)


def heirs_at(lands, land, day):
    found = None
    for row in rows_of(lands, land, HEIRS):
        if row[0] <= day:
            found = row
    return found


def take_at(lands, land, other, day):
    return row_at(rows_of(lands, land, TAKES), other, day)


def saying_at(lands, land, kind, day):
    custom = custom_at(lands, land, kind, day)
    return ("say", 0) if custom is None else custom[2]


def rows_of(lands, land, part):
    """The rows of one part of a land; none, where these lands have no such number."""
    if not 0 <= land < len(lands):
        return ()
    return lands[land][part]


def row_at(rows, key, day):
    """The row in force, of rows that begin with a kind (or another land) and a since."""
    # The rows rise, so the last one that is let by has the greatest since.
    found = None
    for row in rows:
        if row[0] == key and row[1] <= day:
            found = row
    return found


def rule_since(lands, land, kind, since):
    """The land's rule with this kind and since, whatever these three are; None, where there is none."""
    if not is_number(land, 0, len(lands) - 1):
        return None
    for rule in lands[land][RULES]:
        if same(rule[:2], (kind, since)):
            return rule
    return None


def with_rules(lands, land, rules):
    """The lands with these rules in the place of this land's, all else as it was."""
    changed = (rules,) + lands[land][CUSTOMS:]
    return lands[:land] + (changed,) + lands[land + 1:]
