"""Trees: what a court answers, with all that was asked on the way."""

from whoselaw.chainpaper import seat_and_source
from whoselaw.chains import chain_of
from whoselaw.facts import stands
from whoselaw.treepaper import first_saying, is_nobody, saying_behind


def answer_of(lands, book, court, question):
    chain = chain_of(lands, book, court, question)
    courts = seat_and_source(lands, question, chain)
    saying = first_saying(lands, question, courts)
    entries = []
    while saying[0] == "ask":
        answer, entry = answer_of_ask(lands, book, courts, question, saying)
        entries.append(entry)
        saying = saying_behind(saying, answer)
    return saying[1], (chain, tuple(entries))


def answer_of_ask(lands, book, courts, question, saying):
    """What leads on from this ask, 0 for nobody, and the ask's entry."""
    who, day = question[1:]
    kind, whose, mode = saying[1:4]
    if whose is None:
        answer, tree = answer_of(lands, book, courts[mode], (kind, who, day))
        return answer, ("same", tree)
    fact = stands(book, (who, whose), day)
    if is_nobody(fact):
        return 0, ("nobody", fact)
    answer, tree = answer_of(lands, book, courts[mode], (kind, fact[3][1], day))
    return answer, ("with", fact, tree)
