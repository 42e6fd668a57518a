"""The document's points 21 to 24, told once more by their words and without the program."""

import itertools

from plain import Notes, plain_answer, plain_trail


def plain_may_ask(lands, book, question):
    kind, who, day = question
    found = ()
    for number, each in enumerate(lands):
        reaches = [reach for reach in each[4] if reach[0] == kind and reach[1] <= day]
        if reaches:
            trail = plain_trail(book, (who, max(reaches)[2]), day)
            if trail[0] == "in" and trail[1] == number:
                found += (number,)
    return found


def plain_filled(book, opens, filling, day):
    pairs = {(who, role) for who, role, _ in opens}
    kept = [fact for fact in book if (fact[0], fact[1]) not in pairs]
    new = [(who, role, day, option) for (who, role, _), option in zip(opens, filling) if option[0] != "no"]
    return tuple(sorted(kept + new))


def fillings(opens):
    return list(itertools.product(*[options for _, _, options in opens]))


def plain_leaf(lands, book, question, courts, opens, known):
    """The one view without a split that holds where these are known; None, where there is none."""
    options = dict(known)
    filling = [options.get(number, ("no",)) for number in range(len(opens))]
    then = plain_filled(book, opens, filling, question[2])
    notes = Notes()
    told = [plain_answer(lands, then, court, question, notes) for court in courts]
    hidden = {opens[number][:2] for number in range(len(opens)) if number not in options}
    if hidden & notes.pairs or len({answer for answer, _ in told}) > 1:
        return None
    return ("told", told[0][0], tuple(tree for _, tree in told))


def plain_view_holds(lands, book, question, courts, opens, known, thing):
    if type(thing) is not tuple or len(thing) != 3:
        return False
    if thing[0] != "split":
        leaf = plain_leaf(lands, book, question, courts, opens, known)
        return leaf is not None and repr(leaf) == repr(thing)
    _, number, branches = thing
    free = [each for each in range(len(opens)) if each not in dict(known)]
    if type(number) is not int or number not in free or type(branches) is not tuple:
        return False
    options = opens[number][2]
    return len(branches) == len(options) and all(
        plain_view_holds(lands, book, question, courts, opens, more_known(known, number, option), branch)
        for option, branch in zip(options, branches)
    )


def more_known(known, number, option):
    return tuple(sorted(known + ((number, option),)))


def all_views(lands, book, question, courts, opens, known=()):
    """Every view that holds where these are known."""
    leaf = plain_leaf(lands, book, question, courts, opens, known)
    found = [] if leaf is None else [leaf]
    for number in range(len(opens)):
        if number not in dict(known):
            branches = [
                all_views(lands, book, question, courts, opens, more_known(known, number, option))
                for option in opens[number][2]
            ]
            found += [("split", number, row) for row in itertools.product(*branches)]
    return found


def thrown_view(dice, lands, book, question, courts, opens, known=()):
    """Some view that holds where these are known and the courts agree whatever the others are."""
    leaf = plain_leaf(lands, book, question, courts, opens, known)
    free = [number for number in range(len(opens)) if number not in dict(known)]
    if not free or leaf is not None and dice.randrange(3):
        return leaf
    number = dice.choice(free)
    return ("split", number, tuple(
        thrown_view(dice, lands, book, question, courts, opens, more_known(known, number, option))
        for option in opens[number][2]
    ))


def all_partings(lands, book, question, courts, opens):
    """Every paper that says of a filling and two courts that these part."""
    found = []
    for filling in fillings(opens):
        then = plain_filled(book, opens, filling, question[2])
        told = [(court,) + plain_answer(lands, then, court, question) for court in courts]
        found += [("part", filling, low, high) for low, high in itertools.combinations(told, 2) if low[1] != high[1]]
    return found
