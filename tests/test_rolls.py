import copy
import random
import unittest

from plain_rolls import plain_takes
from samples import EMPTY, changes, is_plain, land, part_at, paths, put_at, things_of_every_kind
from whoselaw.lands import are_lands
from whoselaw.rolls import is_roll, takes_over
from worlds import full_worlds, thrown_roll

LAST_DAY = 10 ** 9
TWO = (EMPTY, EMPTY)
FIVE = (EMPTY,) * 5
ROLL = (
    (0, 0, 5, 1, 2),
    (0, 0, 6, 1, 2),
    (0, 1, 5, 2, 1),
    (3, 0, 5, 3, 4),
)


class Checked(unittest.TestCase):
    def good(self, thing, lands=TWO):
        self.assertIs(is_roll(lands, thing), True, thing)

    def bad(self, thing, lands=TWO):
        if is_roll(lands, thing) is not False:
            self.fail(repr(thing)[:500])


class Rolls(Checked):
    def test_none_to_thirty_judgments(self):
        judgments = tuple((day, 1, 5, 1, 2) for day in range(32))
        for many in range(31):
            self.good(judgments[:many])
        self.bad(judgments[:31])
        self.bad(judgments)

    def test_numbers_at_their_bounds_and_just_beyond(self):
        for lands in ((EMPTY,), TWO, FIVE):
            bounds = ((0, 0, LAST_DAY), (1, 0, len(lands) - 1), (2, 0, 99), (3, 0, 99), (4, 0, 99))
            for place, low, high in bounds:
                judgment = (7, 0, 50, 51, 52)
                for number in (low, high):
                    self.good((put_at(judgment, (place,), number),), lands)
                for number in (low - 1, high + 1, 10 ** 59, -(10 ** 59)):
                    self.bad((put_at(judgment, (place,), number),), lands)
        self.good(((0, 0, 0, 99, 1), (LAST_DAY, 4, 99, 0, 98)), FIVE)

    def test_truths_are_no_numbers(self):
        changed = 0
        roll = ((0, 0, 0, 1, 2), (1, 1, 1, 0, 2))
        self.good(roll)
        for path in paths(roll):
            number = part_at(roll, path)
            if type(number) is int and number in (0, 1):
                changed += 1
                self.bad(put_at(roll, path, bool(number)))
        self.assertEqual(changed, 8)

    def test_thing_winner_and_loser_are_unlike(self):
        for ones in ((5, 5, 2), (5, 2, 5), (2, 5, 5), (5, 5, 5), (0, 0, 0), (99, 0, 0)):
            self.bad(((0, 0) + ones,))
        for ones in ((5, 2, 3), (3, 2, 5), (0, 1, 2), (99, 98, 97)):
            self.good(((0, 0) + ones,))

    def test_two_with_the_same_day_court_and_thing(self):
        self.bad(((0, 0, 5, 1, 2), (0, 0, 5, 1, 3)))
        self.bad(((0, 0, 5, 1, 2), (0, 0, 5, 3, 1)))
        self.bad(((0, 0, 5, 1, 2), (0, 0, 5, 1, 2)))
        for other in ((1, 0, 5, 1, 2), (0, 1, 5, 1, 2), (0, 0, 6, 1, 2)):
            self.good(((0, 0, 5, 1, 2), other))

    def test_not_rising(self):
        self.good(ROLL)
        for place in range(len(ROLL) - 1):
            self.bad(ROLL[:place] + (ROLL[place + 1], ROLL[place]) + ROLL[place + 2:])
        self.bad(ROLL[::-1])
        # Rising by day, court and thing, whoever wins.
        self.good(((0, 0, 5, 9, 8), (0, 0, 6, 1, 2), (0, 1, 0, 1, 2), (1, 0, 0, 1, 2)))

    def test_the_courts_are_lands(self):
        self.good(((0, 1, 5, 1, 2),))
        self.bad(((0, 1, 5, 1, 2),), (EMPTY,))
        self.bad(((0, 2, 5, 1, 2),))
        self.good(((0, 2, 5, 1, 2),), FIVE)

    def test_a_part_more_or_fewer_or_a_list(self):
        for place, judgment in enumerate(ROLL):
            for made in (judgment + (0,), judgment[:-1], judgment[1:], (), list(judgment), (judgment,), None):
                self.bad(put_at(ROLL, (place,), made))
        self.bad(list(ROLL))
        self.bad([])
        self.bad(ROLL[0])
        self.bad(dict(enumerate(ROLL)))

    def test_any_one_part_put_otherwise(self):
        # Only another number may make another roll.
        for changed in changes(ROLL):
            lawful = is_roll(TWO, changed)
            self.assertIn(lawful, (True, False))
            self.assertIs(type(lawful), bool)
            if lawful:
                self.assertTrue(is_plain(changed))
                self.assertTrue(all(len(row) == 5 and all(type(each) is int for each in row) for row in changed))

    def test_things_of_every_kind(self):
        self.good(())
        for thing in things_of_every_kind():
            self.bad(thing)
            self.bad((thing,))
            self.bad(ROLL + (thing,))
            self.bad((thing,) + ROLL)
            for place in range(5):
                if type(thing) is not int:
                    self.bad((put_at(ROLL[0], (place,), thing),))

    def test_what_was_handed_in_stays(self):
        thing = [list(row) for row in ROLL]
        kept = copy.deepcopy(thing)
        self.bad(thing)
        self.bad(tuple(thing))
        self.assertEqual(thing, kept)

    def test_thrown_ones(self):
        dice = random.Random(101)
        for lands, _ in full_worlds(50, 102):
            self.good(thrown_roll(dice, len(lands)), lands)


class TakesOver(unittest.TestCase):
    def takes(self, lands, number, judgment):
        self.assertTrue(are_lands(lands) and is_roll(lands, (judgment,)))
        told = takes_over(lands, number, judgment)
        self.assertIs(type(told), bool)
        self.assertIs(told, plain_takes(lands, number, judgment))
        return told

    def test_of_its_own_court_always(self):
        lands = (land(takes=[(1, 0, 0)]), land(takes=[(0, 0, 0)]), EMPTY)
        for number in range(3):
            for day in (0, LAST_DAY):
                self.assertIs(self.takes(lands, number, (day, number, 5, 1, 2)), True)

    def test_of_anothers_court(self):
        lands = (land(takes=[(1, 0, 1), (2, 0, 0)]), EMPTY, EMPTY, EMPTY)
        for court, told in ((1, True), (2, False), (3, False)):
            for day in (0, 9, LAST_DAY):
                self.assertIs(self.takes(lands, 0, (day, court, 5, 1, 2)), told)
        # It isn't so the other way round.
        self.assertIs(self.takes(lands, 1, (9, 0, 5, 1, 2)), False)

    def test_of_the_very_day_and_of_the_day_behind(self):
        lands = (land(takes=[(1, 10, 1)]), EMPTY)
        for day, told in ((0, False), (9, False), (10, True), (11, True), (LAST_DAY, True)):
            self.assertIs(self.takes(lands, 0, (day, 1, 5, 1, 2)), told)
        lands = (land(takes=[(1, LAST_DAY, 1)]), EMPTY)
        self.assertIs(self.takes(lands, 0, (LAST_DAY - 1, 1, 5, 1, 2)), False)
        self.assertIs(self.takes(lands, 0, (LAST_DAY, 1, 5, 1, 2)), True)

    def test_several_takes(self):
        lands = (EMPTY, land(takes=[(0, 0, 1), (0, 5, 0), (0, 8, 1), (2, 0, 0), (2, 6, 1)]), EMPTY)
        told = [self.takes(lands, 1, (day, 0, 5, 1, 2)) for day in range(10)]
        self.assertEqual(told, [True] * 5 + [False] * 3 + [True] * 2)
        told = [self.takes(lands, 1, (day, 2, 5, 1, 2)) for day in range(10)]
        self.assertEqual(told, [False] * 6 + [True] * 4)

    def test_many_worlds(self):
        dice = random.Random(103)
        told = []
        for lands, _ in full_worlds(60, 104):
            roll = thrown_roll(dice, len(lands))
            for judgment in roll:
                for number in range(len(lands)):
                    told.append(self.takes(lands, number, judgment))
        self.assertGreater(min(told.count(True), told.count(False)), 200)


if __name__ == "__main__":
    unittest.main()
