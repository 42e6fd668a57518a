"""The small checker of views, and what is known in one."""

from whoselaw.naming import named
from whoselaw.opens import NOWHERE, filled
from whoselaw.shapes import is_number, is_tuple
from whoselaw.treepaper import tree_holds


def view_holds(lands, book, question, courts, opens, known, thing):
    if not is_tuple(thing, 3, 3):
        return False
    word, first, parts = thing
    if word == "split":
        return split_holds(lands, book, question, courts, opens, known, first, parts)
    return word == "told" and told_holds(lands, book, question, courts, opens, known, first, parts)


def split_holds(lands, book, question, courts, opens, known, number, branches):
    """Whether number is that of an open that isn't known, and branches are its views."""
    if not is_number(number, 0, len(opens) - 1) or number not in not_known(opens, known):
        return False
    options = opens[number][2]
    if not is_tuple(branches, len(options), len(options)):
        return False
    for option, branch in zip(options, branches):
        more = with_known(known, number, option)
        if not view_holds(lands, book, question, courts, opens, more, branch):
            return False
    return True


def told_holds(lands, book, question, courts, opens, known, answer, trees):
    """Whether trees are those of the courts, all with the answer, whatever isn't known."""
    if not is_tuple(trees, len(courts), len(courts)):
        return False
    then = book_known(book, question, opens, known)
    for court, tree in zip(courts, trees):
        if not tree_holds(lands, then, court, question, answer, tree):
            return False
        if looked_at(lands, question, court, opens, known, tree):
            return False
    return True


def not_known(opens, known):
    """The numbers of the opens that aren't known, rising."""
    numbers = [number for number, option in known]
    return [number for number in range(len(opens)) if number not in numbers]


def with_known(known, number, option):
    return tuple(sorted(known + ((number, option),)))


def book_known(book, question, opens, known):
    """The book filled with what is known, and nothing for what isn't."""
    options = dict(known)
    filling = [options.get(number, NOWHERE) for number in range(len(opens))]
    return filled(book, opens, filling, question[2])


def looked_at(lands, question, court, opens, known, tree):
    """The numbers of the opens that aren't known at whose pairs the court's tree looks, rising."""
    pairs = named(lands, question, court, tree)[2]
    return [number for number in not_known(opens, known) if opens[number][:2] in pairs]
