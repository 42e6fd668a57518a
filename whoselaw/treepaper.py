"""The small checker of trees, and where an answer leads."""

from whoselaw.chainpaper import chain_holds, seat_and_source
from whoselaw.facts import stands
from whoselaw.lands import saying_at
from whoselaw.shapes import is_tuple, same


def tree_holds(lands, book, court, question, answer, thing):
    told = tree_answer(lands, book, court, question, thing)
    return told is not None and same(told, answer)


def tree_answer(lands, book, court, question, thing):
    """The answer that the tree comes to; None, where thing isn't the tree."""
    if not is_tuple(thing, 2, 2):
        return None
    chain, entries = thing
    if not isinstance(entries, tuple) or not chain_holds(lands, book, court, question, chain):
        return None
    courts = seat_and_source(lands, question, chain)
    saying = first_saying(lands, question, courts)
    for entry in entries:
        # An entry for which there is no ask is one too many.
        if saying[0] == "say":
            return None
        answer = entry_answer(lands, book, courts, question, saying, entry)
        if answer is None:
            return None
        saying = saying_behind(saying, answer)
    return saying[1] if saying[0] == "say" else None


def entry_answer(lands, book, courts, question, saying, thing):
    """What leads on from this ask, 0 for nobody; None, where thing isn't the ask's entry."""
    who, day = question[1:]
    kind, whose, mode = saying[1:4]
    if whose is None:
        if not is_tuple(thing, 2, 2) or thing[0] != "same":
            return None
        return tree_answer(lands, book, courts[mode], (kind, who, day), thing[1])
    fact = stands(book, (who, whose), day)
    if is_nobody(fact):
        return 0 if same(("nobody", fact), thing) else None
    if not is_tuple(thing, 3, 3) or not same(("with", fact), thing[:2]):
        return None
    return tree_answer(lands, book, courts[mode], (kind, fact[3][1], day), thing[2])


def is_nobody(fact):
    """Whether there is nobody to ask about, where this is what stands."""
    return fact is None or fact[3][0] == "in"


def first_saying(lands, question, courts):
    """The saying from which a question is answered, where courts are its seat and its source."""
    kind, who, day = question
    return saying_at(lands, courts[1], kind, day)


def saying_behind(saying, answer):
    """The saying to which an ask leads by this answer."""
    return saying[5] if answer == 0 else saying[4]
