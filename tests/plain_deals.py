"""The document's points 17 and 18, told once more by their words and without the program."""

from fractions import Fraction

from plain import Notes, plain_answer, plain_chain, plain_decided, plain_fact


def plain_holder(book, thing, day):
    fact = plain_fact(book, thing, 3, day, Notes())
    return fact[3][1] if fact and fact[3][0] == "with" else None


def plain_with(book, role, other, day):
    """All ones whose role is with this other one."""
    found = []
    for one in range(100):
        fact = plain_fact(book, one, role, day, Notes())
        if fact and fact[3] == ("with", other):
            found.append(one)
    return found


def plain_ranks(lands, number, day):
    heirs = [row for row in lands[number][2] if row[0] <= day]
    return max(heirs)[1] if heirs else ()


def plain_dealt(lands, book, court, kind, thing, day):
    """None where nobody holds the thing."""
    owner = plain_holder(book, thing, day)
    if owner is None:
        return None
    chain = plain_chain(lands, book, court, (kind, thing, day))
    decided = plain_decided(lands, (kind, thing, day), chain)
    gone_through = ()
    for rank in plain_ranks(lands, decided[1], day):
        sums = {}
        gone_through += (plain_rank(lands, book, decided, rank, thing, owner, day, sums),)
        if sums:
            whole = sum(sums.values())
            shares = tuple((one, plain_fraction(Fraction(sums[one], whole))) for one in sorted(sums))
            return ("ones", shares), (chain, gone_through)
    return ("land", decided[1]), (chain, gone_through)


def plain_rank(lands, book, decided, rank, thing, owner, day, sums):
    told = ()
    for role, weight, kind, mode in rank:
        rows = ()
        for one in plain_with(book, role, owner, day):
            if one == thing:
                continue
            answer, tree = None, None
            if kind is not None:
                answer, tree = plain_answer(lands, book, decided[mode], (kind, one, day))
            if kind is None or answer > 0:
                sums[one] = sums.get(one, 0) + weight
            rows += ((one, answer, tree),)
        told += (rows,)
    return told


def plain_fraction(number):
    return (number.numerator, number.denominator)


def plain_left(lands, book, court, kind, who, day):
    return tuple(
        (thing, plain_dealt(lands, book, court, kind, thing, day)[0]) for thing in range(100)
        if plain_holder(book, thing, day) == who
    )


def plain_totals(left, worths):
    amounts = {}
    for thing, (word, told) in left:
        worth = sum(each for other, each in worths if other == thing)
        if word == "land":
            amounts[("land", told)] = amounts.get(("land", told), Fraction(0)) + worth
        else:
            for one, (above, below) in told:
                amounts[("one", one)] = amounts.get(("one", one), Fraction(0)) + worth * Fraction(above, below)
    return tuple((heir, plain_fraction(amounts[heir])) for heir in sorted(amounts))
