"""Settling: which of the opens settle an answer, whatever the others are filled with."""

from whoselaw.agreeing import agreeing_with
from whoselaw.settlepaper import answer_by, is_alike_at, known_at, rows_of_numbers


def settles(lands, book, question, court, opens, filling, numbers):
    alike = [other for other in fillings_of(opens) if is_alike_at(filling, other, numbers)]
    return len({answer_by(lands, book, question, court, opens, other) for other in alike}) <= 1


def settling(lands, book, question, court, opens, filling):
    answers = {other: answer_by(lands, book, question, court, opens, other) for other in fillings_of(opens)}
    many = len(opens)
    others = {numbers: turned_by(answers, filling, numbers) for numbers in rows_of_numbers(many)}
    least = []
    most = []
    for numbers in sorted(others):
        other = others[numbers]
        if other is not None:
            if all([others[more] is None for more in one_more(numbers, many)]):
                most.append((numbers, other))
        elif all([others[fewer] is not None for fewer in one_less(numbers)]):
            view = view_at(lands, book, question, court, opens, known_at(filling, numbers))
            least.append((numbers, answers[filling], view))
    return tuple(least), tuple(most)


def fillings_of(opens):
    """Every filling of the opens."""
    rows = [()]
    for who, role, options in opens:
        rows = [row + (option,) for row in rows for option in options]
    return rows


def turned_by(answers, filling, numbers):
    """A filling that is alike at these numbers and has another answer; None, where these settle it."""
    for other in answers:
        if answers[other] != answers[filling] and is_alike_at(filling, other, numbers):
            return other
    return None


def one_less(numbers):
    return [numbers[:place] + numbers[place + 1:] for place in range(len(numbers))]


def one_more(numbers, many):
    return [tuple(sorted(numbers + (number,))) for number in range(many) if number not in numbers]


def view_at(lands, book, question, court, opens, known):
    """A view for that court alone: it can't part from itself, so it's told to agree."""
    return agreeing_with(lands, book, question, (court,), opens, known)[1]
