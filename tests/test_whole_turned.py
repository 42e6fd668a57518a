"""Point 3 of the document, (g) and (h): what is promised of settlings and of trees of clashes."""

import random
import unittest

from plain_opens import fillings
from plain_settling import all_numbers, thrown_settling
from plain_turns import clash_tree, rows_of_turns
from samples import put_at, thrown_changes
from whoselaw.clashes import clashes_hold
from whoselaw.facts import is_book
from whoselaw.opens import filled
from whoselaw.settlepaper import settling_holds
from whoselaw.settling import settles, settling
from whoselaw.trees import answer_of
from whoselaw.turns import all_alike, turned
from worlds import thrown_hangings, thrown_tables


class Settled(unittest.TestCase):
    """(g) What settles an answer leaves it the same in every filling with the same options there."""

    def answers(self, call):
        """By answer_of in the book of every filling."""
        lands, book, question, court, opens, _ = call
        told = {}
        for filling in fillings(opens):
            then = filled(book, opens, filling, question[2])
            self.assertTrue(is_book(lands, then))
            told[filling] = answer_of(lands, then, court, question)[0]
        return told

    def is_so(self, call, paper):
        filling = call[5]
        told = self.answers(call)
        least, most = paper
        for numbers, answer, _ in least:
            alike = [other for other in told if all(other[number] == filling[number] for number in numbers)]
            self.assertIn(filling, alike)
            self.assertEqual({told[other] for other in alike}, {answer})
        for numbers, other in most:
            self.assertEqual([other[number] for number in numbers], [filling[number] for number in numbers])
            self.assertNotEqual(told[other], told[filling])
        return told

    def test_what_is_told_is_so(self):
        turning = 0
        for call in thrown_hangings(150, 271, 64):
            paper = settling(*call)
            self.assertIs(settling_holds(*call, paper), True)
            self.is_so(call, paper)
            turning += len(paper[1]) > 0
        self.assertGreater(turning, 30)

    def test_each_settling_that_is_let_by_is_so(self):
        dice = random.Random(273)
        told = []
        for call in thrown_hangings(80, 275, 24):
            for _ in range(3):
                paper = thrown_settling(dice, *call)
                self.assertIs(settling_holds(*call, paper), True)
                self.is_so(call, paper)
                for changed in thrown_changes(dice, paper, 5) + exchanged(call, paper):
                    told.append(settling_holds(*call, changed))
                    if told[-1]:
                        self.is_so(call, changed)
        self.assertGreater(min(told.count(True), told.count(False)), 50)

    def test_each_row_of_numbers_is_on_one_side(self):
        """Just what has a least row in it is told to settle, just what is in a most row not to."""
        for call in thrown_hangings(80, 277, 24):
            least, most = settling(*call)
            for numbers in all_numbers(len(call[4])):
                low = any(set(row[0]) <= set(numbers) for row in least)
                high = any(set(numbers) <= set(row[0]) for row in most)
                self.assertIs(settles(*call, numbers), low)
                self.assertIs(low, not high)


def exchanged(call, paper):
    """The settling with any filling in the others' stead."""
    return [
        put_at(paper, (1, place, 1), filling)
        for place in range(len(paper[1])) for filling in fillings(call[4])
    ]


class Clashing(unittest.TestCase):
    """(h) A tree of clashes that holds leaves no row of so few turns that makes the lands alike."""

    def none_is_left(self, lands, table, number):
        for turns in rows_of_turns(lands, number):
            self.assertIs(all_alike(turned(lands, turns), table), False)

    def test_of_each_tree_that_is_let_by(self):
        dice = random.Random(281)
        many = {0: 0, 1: 0, 2: 0}
        for most, number in ((3, 0), (6, 1), (3, 2)):
            for lands, table in thrown_tables(90, 283 + most + number, most):
                tree = clash_tree(lands, table, number, dice.choice)
                if tree is not None:
                    many[number] += 1
                    self.assertIs(clashes_hold(lands, table, number, tree), True)
                    self.none_is_left(lands, table, number)
        self.assertGreater(min(many.values()), 20)

    def test_where_such_a_row_is_left_no_tree_is_let_by(self):
        """Of lands that are alike by a turn: trees of others, and right ones but for a branch, are not let by."""
        dice = random.Random(285)
        worlds = thrown_tables(100, 287, 3)
        trees = [
            (number, clash_tree(lands, table, number, dice.choice)) for lands, table in worlds for number in (0, 1)
        ]
        many = 0
        for lands, table in worlds:
            least = fewest(lands, table)
            for number, tree in trees:
                told = clashes_hold(lands, table, number, tree)
                if least is not None and least <= number:
                    many += 1
                    self.assertIs(told, False)
                for changed in thrown_changes(dice, tree, 2) if tree is not None else ():
                    if clashes_hold(lands, table, number, changed):
                        self.none_is_left(lands, table, number)
        self.assertGreater(many, 1000)

    def test_turned_lands_are_alike_just_where_no_case_clashes(self):
        for lands, table in thrown_tables(40, 289, 3):
            for turns in list(rows_of_turns(lands, 2))[::5]:
                then = turned(lands, turns)
                told = [
                    {answer_of(then, book, court, question)[0] for court in range(len(then))}
                    for book, question in table
                ]
                self.assertIs(all_alike(then, table), all(len(answers) == 1 for answers in told))


def fewest(lands, table):
    """How many turns at the least make them alike, one at the most; None, where more are wanted."""
    rows = [turns for turns in rows_of_turns(lands, 1) if all_alike(turned(lands, turns), table)]
    return min(map(len, rows), default=None)


if __name__ == "__main__":
    unittest.main()
