"""Point 3 of the document, (e) and (f): what is promised of rolls and of agreeing papers."""

import random
import unittest

from plain_opens import all_views, fillings
from samples import at_once, beside, land, put_at
from whoselaw.agreeing import agreeing, agreeing_holds
from whoselaw.facts import is_book
from whoselaw.lands import are_lands
from whoselaw.opens import filled
from whoselaw.rolls import is_roll, takes_over
from whoselaw.treepaper import tree_holds
from whoselaw.trees import answer_of
from whoselaw.verdicts import holder, parted, verdicts
from worlds import FOLK, LAST_WORLD_DAY, full_worlds, thrown_courts, thrown_opens, thrown_roll

LAST_DAY = 10 ** 9


class SameHolders(unittest.TestCase):
    """(e) By two lands that each take over every judgment of a roll, each thing has the same holder."""

    def alike(self, lands, book, roll, numbers, days):
        for day in days:
            for thing in range(FOLK):
                told = {
                    (holder(lands, book, roll, number, thing, day), verdicts(lands, book, roll, number, thing, day))
                    for number in numbers
                }
                self.assertEqual(len(told), 1)
                self.assertNotIn("strange", [word for _, rows in told for _, word, _ in rows])

    def test_of_the_judgments_that_both_take_over(self):
        dice = random.Random(171)
        many = bound = 0
        for lands, book in full_worlds(150, 172):
            roll = thrown_roll(dice, len(lands))
            for low in range(len(lands)):
                for high in range(low + 1, len(lands)):
                    kept = tuple(
                        each for each in roll if takes_over(lands, low, each) and takes_over(lands, high, each)
                    )
                    self.assertTrue(is_roll(lands, kept))
                    if kept:
                        many += 1
                        self.alike(lands, book, kept, (low, high), (2, LAST_WORLD_DAY))
                        bound += "binds" in [row[1] for row in verdicts(lands, book, kept, low, 6, LAST_WORLD_DAY)]
        self.assertGreater(many, 60)
        self.assertGreater(bound, 10)

    def test_where_all_take_over_all_nothing_is_parted(self):
        dice = random.Random(173)
        for lands, book in full_worlds(60, 174):
            numbers = range(len(lands))
            for number in numbers:
                takes = tuple((other, 0, 1) for other in numbers if other != number)
                lands = put_at(lands, (number, 3), takes)
            self.assertTrue(are_lands(lands))
            roll = thrown_roll(dice, len(lands))
            self.alike(lands, book, roll, numbers, range(LAST_WORLD_DAY + 1))
            for thing in range(FOLK):
                self.assertIsNone(parted(lands, book, roll, thing, LAST_WORLD_DAY))

    def test_at_the_bounds(self):
        lands = tuple(land(takes=[(other, 0, 1) for other in range(5) if other != number]) for number in range(5))
        book = tuple(beside(0, 3, 90 + day % 9, day) for day in range(60))
        roll = tuple((day, day % 5, 0, 99, 90 + day % 9) for day in range(29)) + ((LAST_DAY, 4, 0, 1, 95),)
        self.assertTrue(are_lands(lands) and is_book(lands, book) and is_roll(lands, roll))
        self.assertEqual(len(roll), 30)
        self.alike(lands, book, roll, range(5), (0, 28, 29, LAST_DAY))


class AgreeingPapers(unittest.TestCase):
    """(f) What an agreeing paper that holds says is so in every filling."""

    def answers_in(self, call, filling):
        lands, book, question, courts, opens = call
        then = filled(book, opens, filling, question[2])
        self.assertTrue(is_book(lands, then))
        return {court: answer_of(lands, then, court, question) for court in courts}

    def is_so(self, call, paper):
        """By answer_of in the books of all fillings."""
        opens = call[4]
        if paper[0] == "part":
            _, filling, low, high = paper
            told = self.answers_in(call, filling)
            self.assertIn(filling, fillings(opens))
            for court, answer, tree in (low, high):
                self.assertEqual(told[court], (answer, tree))
            self.assertNotEqual(low[1], high[1])
            return
        for filling in fillings(opens):
            told = self.answers_in(call, filling)
            self.assertEqual({answer for answer, _ in told.values()}, {self.told_by(paper[1], opens, filling, call)})

    def told_by(self, view, opens, filling, call):
        """The answer of the view's leaf for this filling, whose trees hold in the book so filled."""
        while view[0] == "split":
            _, number, branches = view
            view = branches[opens[number][2].index(filling[number])]
        lands, book, question, courts, _ = call
        then = filled(book, opens, filling, question[2])
        for court, tree in zip(courts, view[2]):
            self.assertIs(tree_holds(lands, then, court, question, view[1], tree), True)
        return view[1]

    def calls(self, many, seed, most):
        dice = random.Random(seed)
        for lands, book in full_worlds(many, seed + 1):
            opens = thrown_opens(dice, len(lands), most)
            who = dice.choice([row[0] for row in opens] + [dice.randrange(FOLK)])
            question = (dice.randrange(4), who, dice.randrange(LAST_WORLD_DAY + 1))
            yield lands, book[:50], question, thrown_courts(dice, len(lands)), opens

    def test_what_is_told_is_so(self):
        words = []
        for call in self.calls(200, 175, 64):
            paper = agreeing(*call)
            words.append(paper[0])
            self.assertIs(agreeing_holds(*call, paper), True)
            self.is_so(call, paper)
        self.assertGreater(min(words.count("agree"), words.count("part")), 30)

    def test_each_paper_that_is_let_by_is_so(self):
        """Of all views, and of partings with any filling put in, wherever they are let by."""
        many = []
        for call in self.calls(60, 177, 8):
            lands, book, question, courts, opens = call
            for view in all_views(lands, book, question, courts, opens[:2])[:20]:
                paper = ("agree", view)
                less = (lands, book, question, courts, opens[:2])
                self.assertIs(agreeing_holds(*less, paper), True)
                self.is_so(less, paper)
            told = agreeing(*call)
            for filling in fillings(opens) if told[0] == "part" else ():
                changed = put_at(told, (1,), filling)
                many.append(agreeing_holds(*call, changed))
                if many[-1]:
                    self.is_so(call, changed)
        self.assertGreater(min(many.count(True), many.count(False)), 20)

    def test_only_of_one_of_both_there_are_any(self):
        for call in self.calls(80, 179, 12):
            lands, book, question, courts, opens = call
            alike = all(
                len({answer for answer, _ in self.answers_in(call, filling).values()}) == 1
                for filling in fillings(opens)
            )
            self.assertEqual(agreeing(*call)[0], "agree" if alike else "part")

    def test_whatever_the_order_of_the_courts(self):
        for call in self.calls(80, 181, 16):
            lands, book, question, courts, opens = call
            turned = (lands, book, question, courts[::-1], opens)
            self.assertEqual(agreeing(*call)[0], agreeing(*turned)[0])
            self.is_so(turned, agreeing(*turned))

    def test_opens_whose_facts_the_book_has_already(self):
        lands = (land([(0, 0, 0, 2)], [(0, 0, ("say", 1))]), land([], [(0, 0, ("say", 2))]))
        book = (at_once(0, 0, 1), at_once(0, 0, 1, 5), at_once(0, 0, 1, 9))
        call = (lands, book, (0, 0, 5), (0, 1), ((0, 0, (("in", 0), ("in", 1))),))
        paper = agreeing(*call)
        self.assertEqual(paper[:2], ("part", (("in", 0),)))
        self.is_so(call, paper)
        # Without the open, land 0 sends it to land 1.
        self.assertEqual(agreeing(*call[:4], ())[0], "agree")


if __name__ == "__main__":
    unittest.main()
