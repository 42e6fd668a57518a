"""Agreeing: whether courts have the same answer, whatever the opens are filled with."""

from whoselaw.opens import filled, is_filling
from whoselaw.shapes import is_tuple, same
from whoselaw.treepaper import tree_holds
from whoselaw.trees import answer_of
from whoselaw.viewpaper import book_known, looked_at, view_holds, with_known


def agreeing(lands, book, question, courts, opens):
    return agreeing_with(lands, book, question, courts, opens, ())


def agreeing_with(lands, book, question, courts, opens, known):
    """Whether the courts agree where these are known: a view of that, or how they part."""
    then = book_known(book, question, opens, known)
    told = [answer_of(lands, then, court, question) for court in courts]
    number = first_looked_at(lands, question, courts, opens, known, told)
    if number is None:
        return agreeing_told(courts, opens, known, told)
    branches = []
    for option in opens[number][2]:
        more = with_known(known, number, option)
        paper = agreeing_with(lands, book, question, courts, opens, more)
        if paper[0] == "part":
            return paper
        branches.append(paper[1])
    return ("agree", ("split", number, tuple(branches)))


def first_looked_at(lands, question, courts, opens, known, told):
    """The first open that isn't known at which a court's tree looks; None, where none does."""
    numbers = []
    for court, (answer, tree) in zip(courts, told):
        numbers.extend(looked_at(lands, question, court, opens, known, tree))
    return min(numbers, default=None)


def agreeing_told(courts, opens, known, told):
    """How courts agree or part that answer so whatever isn't known."""
    answer, tree = told[0]
    for court, (other, far) in zip(courts, told):
        if other != answer:
            # No tree looks at what isn't known, so each option there will do.
            options = dict(known)
            filling = tuple([options.get(number, row[2][0]) for number, row in enumerate(opens)])
            return ("part", filling, (courts[0], answer, tree), (court, other, far))
    return ("agree", ("told", answer, tuple([each for other, each in told])))


def agreeing_holds(lands, book, question, courts, opens, thing):
    if is_tuple(thing, 2, 2):
        return thing[0] == "agree" and view_holds(lands, book, question, courts, opens, (), thing[1])
    return is_tuple(thing, 4, 4) and thing[0] == "part" and parting_holds(lands, book, question, courts, opens, thing)


def parting_holds(lands, book, question, courts, opens, paper):
    """Whether two courts, one ahead of the other, have unlike answers by the filling."""
    filling, low, high = paper[1:]
    if not is_filling(opens, filling) or not is_tuple(low, 3, 3) or not is_tuple(high, 3, 3):
        return False
    first = place_of(courts, low[0])
    second = place_of(courts, high[0])
    if first is None or second is None or first >= second:
        return False
    then = filled(book, opens, filling, question[2])
    return (
        tree_holds(lands, then, low[0], question, low[1], low[2])
        and tree_holds(lands, then, high[0], question, high[1], high[2])
        and low[1] != high[1]
    )


def place_of(courts, thing):
    """The place of a court among these; None, where thing is none of them."""
    for place, court in enumerate(courts):
        if same(court, thing):
            return place
    return None
