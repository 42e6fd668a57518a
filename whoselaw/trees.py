"""Trees: what a court answers, with all that was asked on the way."""

from whoselaw.chainpaper import seat_and_source
from whoselaw.chains import chain_of
from whoselaw.facts import stands
from whoselaw.treepaper import first_saying, is_nobody, saying_behind


def answer_of(lands, book, court, question):
    return answer_among(lands, book, court, question, {})


def answer_among(lands, book, court, question, told):
    """The answer and its tree, where told has those of the questions that were put on the way."""
    # The same question is often come to again, at the same court: then it isn't gone through anew.
    key = (court, question)
    if key not in told:
        told[key] = answer_anew(lands, book, court, question, told)
    return told[key]


def answer_anew(lands, book, court, question, told):
    chain = chain_of(lands, book, court, question)
    courts = seat_and_source(lands, question, chain)
    saying = first_saying(lands, question, courts)
    entries = []
    while saying[0] == "ask":
        answer, entry = answer_of_ask(lands, book, courts, question, saying, told)
        entries.append(entry)
        saying = saying_behind(saying, answer)
    return saying[1], (chain, tuple(entries))


def answer_of_ask(lands, book, courts, question, saying, told):
    """What leads on from this ask, 0 for nobody, and the ask's entry."""
    who, day = question[1:]
    kind, whose, mode = saying[1:4]
    if whose is None:
        answer, tree = answer_among(lands, book, courts[mode], (kind, who, day), told)
        return answer, ("same", tree)
    fact = stands(book, (who, whose), day)
    if is_nobody(fact):
        return 0, ("nobody", fact)
    answer, tree = answer_among(lands, book, courts[mode], (kind, fact[3][1], day), told)
    return answer, ("with", fact, tree)
