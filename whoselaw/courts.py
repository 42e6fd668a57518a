"""Courts: which of them may be asked, and what they answer."""

from whoselaw.facts import holdings
from whoselaw.lands import reach_at
from whoselaw.trails import trail_of
from whoselaw.trees import answer_of


def may_ask(lands, book, question):
    return tuple([land for land in range(len(lands)) if reaches(lands, book, land, question)])


def reaches(lands, book, land, question):
    """Whether the land's reach for the question leads to the land itself."""
    kind, who, day = question
    reach = reach_at(lands, land, kind, day)
    if reach is None:
        return False
    return trail_of(book, (who, reach[2]), day)[:2] == ("in", land)


def answers(lands, book, question):
    return tuple([(land, answer_of(lands, book, land, question)[0]) for land in may_ask(lands, book, question)])


def reached(lands, book, kind, who, day):
    return tuple([(thing, may_ask(lands, book, (kind, thing, day))) for thing in holdings(book, who, day)])
