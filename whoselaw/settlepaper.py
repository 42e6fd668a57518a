"""The small checker of settlings, and the rows of numbers that they speak of."""

from whoselaw.opens import filled, is_filling
from whoselaw.shapes import is_number, is_tuple, rises, same
from whoselaw.trees import answer_of
from whoselaw.viewpaper import view_holds


def settling_holds(lands, book, question, court, opens, filling, thing):
    if not is_tuple(thing, 2, 2):
        return False
    least, most = thing
    if not are_rows(least, 3, len(opens)) or not are_rows(most, 2, len(opens)):
        return False
    if not part_all([row[0] for row in least], [row[0] for row in most], len(opens)):
        return False
    answer = answer_by(lands, book, question, court, opens, filling)
    for row in least:
        if not least_holds(lands, book, question, court, opens, filling, answer, row):
            return False
    for row in most:
        if not most_holds(lands, book, question, court, opens, filling, answer, row):
            return False
    return True


def are_rows(thing, parts, many):
    """Whether thing is a tuple of rows of so many parts, rising by their numbers of so many opens."""
    if not isinstance(thing, tuple) or not all([is_row(row, parts, many) for row in thing]):
        return False
    return rises([row[0] for row in thing])


def is_row(thing, parts, many):
    return is_tuple(thing, parts, parts) and are_numbers(thing[0], many)


def are_numbers(thing, many):
    """Whether thing is a rising tuple of numbers of so many opens."""
    return is_tuple(thing, 0, many) and all([is_number(part, 0, many - 1) for part in thing]) and rises(thing)


def part_all(least, most, many):
    """Whether each row of numbers has one of the least in it or is in one of the most, and none of these is idle.

    What has a row that settles in it settles, and what is in one that doesn't, doesn't. So where each of
    the least does and none of the most does, these are just the rows that point 25 wants.
    """
    if not none_within(least) or not none_within(most):
        return False
    return all([
        any([is_within(low, row) for low in least]) or any([is_within(row, high) for high in most])
        for row in rows_of_numbers(many)
    ])


def none_within(rows):
    """Whether none of these rows of numbers, each there once, is within another one."""
    return all([low == high or not is_within(low, high) for low in rows for high in rows])


def is_within(low, high):
    return all([number in high for number in low])


def rows_of_numbers(many):
    """Every rising tuple of numbers of so many opens."""
    rows = [()]
    for number in range(many):
        rows = rows + [row + (number,) for row in rows]
    return rows


def answer_by(lands, book, question, court, opens, filling):
    """The court's answer in the book so filled."""
    return answer_of(lands, filled(book, opens, filling, question[2]), court, question)[0]


def least_holds(lands, book, question, court, opens, filling, answer, row):
    """Whether the row's view shows that these numbers settle the answer."""
    numbers, told, view = row
    if not same(answer, told):
        return False
    known = known_at(filling, numbers)
    if not view_holds(lands, book, question, (court,), opens, known, view):
        return False
    return all([each == answer for each in told_in(view)])


def known_at(filling, numbers):
    """What is known where just these opens are as the filling has them."""
    return tuple([(number, filling[number]) for number in numbers])


def told_in(view):
    """The answers that a view tells, which holds."""
    if view[0] == "told":
        return [view[1]]
    return [answer for branch in view[2] for answer in told_in(branch)]


def most_holds(lands, book, question, court, opens, filling, answer, row):
    """Whether the row's other filling shows that these numbers don't settle the answer."""
    numbers, other = row
    if not is_filling(opens, other) or not is_alike_at(filling, other, numbers):
        return False
    return answer_by(lands, book, question, court, opens, other) != answer


def is_alike_at(filling, other, numbers):
    """Whether two fillings have the same options at these numbers."""
    return all([low == high for number, (low, high) in enumerate(zip(filling, other)) if number in numbers])
