"""The small checker of dealings, and how the rows of a rank deal."""

from whoselaw.chainpaper import chain_holds, seat_and_source
from whoselaw.facts import held_by, stood_with
from whoselaw.lands import heirs_at
from whoselaw.shapes import is_tuple, same
from whoselaw.treepaper import tree_holds


def dealing_holds(lands, book, court, kind, one, day, dealing, paper):
    if held_by(book, one, day) is None or not is_tuple(paper, 2, 2):
        return False
    chain, told = paper
    question = (kind, one, day)
    if not isinstance(told, tuple) or not chain_holds(lands, book, court, question, chain):
        return False
    courts = seat_and_source(lands, question, chain)
    ranks = ranks_at(lands, courts[1], day)
    if len(told) > len(ranks):
        return False
    weights = {}
    for rank, rows in zip(ranks, told):
        # Behind a rank that deals no other one is gone through.
        if weights or not rank_holds(lands, book, courts, question, rank, rows):
            return False
        weights = weights_by(rank, rows)
    if not weights and len(told) < len(ranks):
        return False
    return same(dealing_by(courts[1], weights), dealing)


def rank_holds(lands, book, courts, question, rank, thing):
    """Whether thing has, for each call of the rank, just the rows that are due."""
    if not is_tuple(thing, len(rank), len(rank)):
        return False
    return all([call_holds(lands, book, courts, question, call, rows) for call, rows in zip(rank, thing)])


def call_holds(lands, book, courts, question, call, thing):
    kin = kin_of(book, question, call)
    if not is_tuple(thing, len(kin), len(kin)):
        return False
    day = question[2]
    return all([row_holds(lands, book, courts, call, one, day, row) for one, row in zip(kin, thing)])


def row_holds(lands, book, courts, call, one, day, thing):
    if not is_tuple(thing, 3, 3) or not same(one, thing[0]):
        return False
    answer, tree = thing[1:]
    kind, mode = call[2:]
    if kind is None:
        return answer is None and tree is None
    return tree_holds(lands, book, courts[mode], (kind, one, day), answer, tree)


def ranks_at(lands, source, day):
    """The ranks by which the source deals on the day; none, where no heirs are in force."""
    heirs = heirs_at(lands, source, day)
    return () if heirs is None else heirs[1]


def kin_of(book, question, call):
    """All ones but the thing asked about of whom the call's role stands with its holder, rising."""
    kind, thing, day = question
    owner = held_by(book, thing, day)
    return [one for one in stood_with(book, call[0], owner, day) if one != thing]


def weights_by(rank, rows):
    """The sum of the weights of each one whom the rank calls, by its calls' rows."""
    weights = {}
    for call, told in zip(rank, rows):
        for one, answer, tree in told:
            # A call without a kind asks for no answer: None calls, as a yes does.
            if answer != 0:
                weights[one] = weights.get(one, 0) + call[1]
    return weights


def dealing_by(source, weights):
    """The dealing where these are called; the source's land has the whole, where nobody is."""
    if not weights:
        return ("land", source)
    whole = sum(weights.values())
    return ("ones", tuple([(one, lowest_terms(weights[one], whole)) for one in sorted(weights)]))


def lowest_terms(above, below):
    """The fraction as a tuple (above, below), nought as (0, 1)."""
    common, rest = below, above
    while rest > 0:
        common, rest = rest, common % rest
    return (above // common, below // common)
