"""The document's point 25, told once more by its words and without the program."""

import functools
import itertools

from plain import plain_answer
from plain_opens import all_views, fillings, plain_filled, plain_view_holds, thrown_view


@functools.lru_cache(maxsize=None)
def plain_answers(lands, book, question, court, opens):
    """The court's answer in each filling."""
    return {
        filling: plain_answer(lands, plain_filled(book, opens, filling, question[2]), court, question)[0]
        for filling in fillings(opens)
    }


def all_numbers(many):
    """Every rising tuple of numbers of so many opens."""
    return sorted(row for long in range(many + 1) for row in itertools.combinations(range(many), long))


def others_at(lands, book, question, court, opens, filling, numbers):
    """The fillings with the same options at these numbers and another answer."""
    told = plain_answers(lands, book, question, court, opens)
    return [
        other for other in fillings(opens)
        if [other[number] for number in numbers] == [filling[number] for number in numbers]
        and told[other] != told[filling]
    ]


def plain_settles(lands, book, question, court, opens, filling, numbers):
    return not others_at(lands, book, question, court, opens, filling, numbers)


def rows_due(lands, book, question, court, opens, filling):
    """The numbers of the least rows and of the most, each rising."""
    call = (lands, book, question, court, opens, filling)
    settled = {row: plain_settles(*call, row) for row in all_numbers(len(opens))}
    least = [
        row for row in settled
        if settled[row] and not any(settled[tuple(each for each in row if each != number)] for number in row)
    ]
    most = [
        row for row in settled if not settled[row]
        and all(settled[tuple(sorted(row + (more,)))] for more in range(len(opens)) if more not in row)
    ]
    return least, most


def known_in(filling, numbers):
    return tuple((number, filling[number]) for number in numbers)


def leaves(view):
    if view[0] == "told":
        return [view[1]]
    return [answer for branch in view[2] for answer in leaves(branch)]


def plain_settling_holds(lands, book, question, court, opens, filling, thing):
    call = (lands, book, question, court, opens, filling)
    if not rows_of(thing, 2) or not all(rows_of(part) for part in thing):
        return False
    least, most = thing
    if not all(rows_of(row, 3) for row in least) or not all(rows_of(row, 2) for row in most):
        return False
    # By repr True is unlike 1, and a list unlike a tuple.
    if repr(([row[0] for row in least], [row[0] for row in most])) != repr(rows_due(*call)):
        return False
    answer = plain_answers(lands, book, question, court, opens)[filling]
    for numbers, told, view in least:
        known = known_in(filling, numbers)
        if repr(told) != repr(answer) or not plain_view_holds(lands, book, question, (court,), opens, known, view):
            return False
        if set(leaves(view)) != {answer}:
            return False
    return all(repr(other) in [repr(each) for each in others_at(*call, numbers)] for numbers, other in most)


def rows_of(thing, many=None):
    """Whether it's a tuple, of so many parts where that is told."""
    return type(thing) is tuple and many in (None, len(thing))


def all_settlings(lands, book, question, court, opens, filling):
    """Every settling that holds, one after another."""
    call = (lands, book, question, court, opens, filling)
    least, most = rows_due(*call)
    answer = plain_answers(lands, book, question, court, opens)[filling]
    views = [
        [(numbers, answer, view)
         for view in all_views(lands, book, question, (court,), opens, known_in(filling, numbers))]
        for numbers in least
    ]
    others = [[(numbers, other) for other in others_at(*call, numbers)] for numbers in most]
    for row in itertools.product(*views, *others):
        yield row[:len(least)], row[len(least):]


def thrown_settling(dice, lands, book, question, court, opens, filling):
    """Some settling that holds."""
    call = (lands, book, question, court, opens, filling)
    least, most = rows_due(*call)
    answer = plain_answers(lands, book, question, court, opens)[filling]
    views = [thrown_view(dice, lands, book, question, (court,), opens, known_in(filling, row)) for row in least]
    return (
        tuple((row, answer, view) for row, view in zip(least, views)),
        tuple((row, dice.choice(others_at(*call, row))) for row in most),
    )
