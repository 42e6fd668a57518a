"""Dealing: to whom a thing that somebody holds is dealt out, and the paper of it."""

from whoselaw.chainpaper import seat_and_source
from whoselaw.chains import chain_of
from whoselaw.dealpaper import dealing_by, kin_of, ranks_at, weights_by
from whoselaw.errors import NotHeld
from whoselaw.facts import held_by
from whoselaw.trees import answer_of


def dealt(lands, book, court, kind, thing, day):
    if held_by(book, thing, day) is None:
        raise NotHeld()
    question = (kind, thing, day)
    chain = chain_of(lands, book, court, question)
    courts = seat_and_source(lands, question, chain)
    told = []
    weights = {}
    for rank in ranks_at(lands, courts[1], day):
        rows = tuple([rows_of_call(lands, book, courts, question, call) for call in rank])
        told.append(rows)
        weights = weights_by(rank, rows)
        if weights:
            break
    return dealing_by(courts[1], weights), (chain, tuple(told))


def rows_of_call(lands, book, courts, question, call):
    """A row (one, answer, tree) for each one of whom the call's role stands with the holder."""
    day = question[2]
    return tuple([row_of(lands, book, courts, call, one, day) for one in kin_of(book, question, call)])


def row_of(lands, book, courts, call, one, day):
    kind, mode = call[2:]
    if kind is None:
        return (one, None, None)
    answer, tree = answer_of(lands, book, courts[mode], (kind, one, day))
    return (one, answer, tree)
