import copy
import itertools
import unittest

from plain_turns import all_rules, clashes_in, plain_alike, plain_turned, rows_of_turns, turns_of_rule
from refusing import Refusing
from samples import EMPTY, at_once, is_plain, land, put_at, say, things_of_every_kind
from whoselaw.errors import NoTurn
from whoselaw.facts import is_book
from whoselaw.lands import are_lands
from whoselaw.turns import all_alike, turned
from worlds import full_worlds, shuffled, thrown_tables

ALONE, TAKEN, COURT = range(3)
LAST_DAY = 10 ** 9
LANDS = (
    land([(0, 0, 0, ALONE), (0, 5, 1, TAKEN), (3, LAST_DAY, 2, COURT)], [(0, 0, say(1)), (1, 0, say(2))],
         [(0, (((0, 1, None, 0),),))], [(1, 0, 1)], [(0, 0, 0)]),
    EMPTY,
    land([(0, 5, 1, COURT), (1, 0, 0, ALONE)], [(0, 0, say(3))], [(4, (((2, 9, 1, 1),),))], [(0, 3, 0)], [(2, 2, 2)]),
)


def turns_back(lands, turns):
    """What turns the rules back to what they are in these lands."""
    return tuple(turn[:3] + all_rules(lands)[turn[:3]] for turn in turns)


class Refused(Refusing):
    def no_turn(self, lands, turns):
        self.refused(NoTurn, turned, lands, turns)

    def test_no_such_land(self):
        for number in (3, 4, 5, 99, -1, -3, 10 ** 59):
            self.no_turn(LANDS, ((number, 0, 0, 1, 1),))
            self.no_turn(LANDS, ((number, 0, 5, 0, 0),))
            self.no_turn((EMPTY,), ((number, 0, 0, 1, 1),))

    def test_no_rule_of_that_kind_and_since(self):
        for turn in ((1, 0, 0, 1, 1), (0, 1, 0, 1, 1), (0, 2, 0, 1, 1), (0, 0, 1, 1, 1), (0, 0, 4, 1, 1),
                     (0, 0, 6, 1, 1), (0, 3, 0, 1, 1), (0, 3, LAST_DAY - 1, 1, 1), (2, 0, 0, 1, 1), (2, 1, 5, 1, 1)):
            for role, way in itertools.product(range(3), range(3)):
                self.no_turn(LANDS, (turn[:3] + (role, way),))

    def test_it_has_both_already(self):
        for key, both in all_rules(LANDS).items():
            self.no_turn(LANDS, (key + both,))

    def test_one_that_is_refused_beside_others_that_are_not(self):
        good = [(0, 0, 0, 1, 0), (0, 0, 5, 0, 0), (2, 1, 0, 2, 2)]
        for bad in ((0, 0, 0, 0, ALONE), (1, 0, 0, 0, 0), (2, 1, 1, 0, 0), (3, 0, 0, 0, 0), (2, 0, 5, 1, COURT)):
            others = [turn for turn in good if turn[:3] != bad[:3]]
            for many in (1, 2):
                for chosen in itertools.combinations(others, many):
                    self.no_turn(LANDS, tuple(sorted(chosen + (bad,))))

    def test_lands_without_rules(self):
        self.no_turn((EMPTY,), ((0, 0, 0, 0, 0),))
        self.no_turn((EMPTY,) * 5, ((4, 3, LAST_DAY, 2, 2),))

    def test_truths_are_no_numbers_of_a_rule(self):
        lands = (land([(0, 0, 0, 0), (1, 1, 0, 0)]),) * 2
        for turn in ((True, 0, 0, 1, 1), (False, 0, 0, 1, 1), (0, False, 0, 1, 1), (0, True, 1, 1, 1),
                     (0, 1, True, 1, 1), (0, 0, False, 1, 1)):
            self.no_turn(lands, (turn,))

    def test_whatever_stands_in_the_rules_place(self):
        for thing in things_of_every_kind():
            for place in range(3):
                turn = put_at((0, 0, 0, 1, 1), (place,), thing)
                if repr(turn) != repr((0, 0, 0, 1, 1)):
                    self.no_turn((land([(0, 0, 0, 0)]),), (turn,))


class Turned(unittest.TestCase):
    def tells(self, lands, turns):
        told = turned(lands, turns)
        self.assertTrue(is_plain(told))
        self.assertTrue(are_lands(told))
        self.assertEqual(told, plain_turned(lands, turns))
        return told

    def test_no_turns(self):
        for lands in (LANDS, (EMPTY,), (EMPTY,) * 5):
            self.assertEqual(self.tells(lands, ()), lands)

    def test_one(self):
        told = self.tells(LANDS, ((0, 0, 5, 2, COURT),))
        self.assertEqual(told[0][0], ((0, 0, 0, ALONE), (0, 5, 2, COURT), (3, LAST_DAY, 2, COURT)))
        self.assertEqual((told[0][1:], told[1:]), (LANDS[0][1:], LANDS[1:]))

    def test_the_role_the_way_or_both(self):
        for key, (role, way) in all_rules(LANDS).items():
            told = [self.tells(LANDS, (turn,)) for turn in turns_of_rule(LANDS, key)]
            self.assertEqual(len(set(told)), 8)
            self.assertNotIn(LANDS, told)
            kept = [all_rules(lands)[key] for lands in told]
            self.assertEqual(sorted(kept + [(role, way)]), sorted(itertools.product(range(3), range(3))))

    def test_two_of_one_land_and_three_of_several(self):
        told = self.tells(LANDS, ((0, 0, 0, 0, TAKEN), (0, 0, 5, 0, TAKEN)))
        self.assertEqual(told[0][0], ((0, 0, 0, TAKEN), (0, 5, 0, TAKEN), (3, LAST_DAY, 2, COURT)))
        told = self.tells(LANDS, ((0, 0, 0, 2, ALONE), (0, 3, LAST_DAY, 0, ALONE), (2, 1, 0, 1, COURT)))
        self.assertEqual(told[0][0], ((0, 0, 2, ALONE), (0, 5, 1, TAKEN), (3, LAST_DAY, 0, ALONE)))
        self.assertEqual(told[2][0], ((0, 5, 1, COURT), (1, 0, 1, COURT)))
        told = self.tells(LANDS, ((0, 0, 0, 1, ALONE), (0, 0, 5, 1, ALONE), (0, 3, LAST_DAY, 1, ALONE)))
        self.assertEqual({rule[2:] for rule in told[0][0]}, {(1, ALONE)})

    def test_every_row_of_turns_and_back(self):
        rows = list(rows_of_turns(LANDS, 2)) + list(rows_of_turns(LANDS, 3))[::17]
        self.assertGreater(len(rows), 900)
        for turns in rows:
            told = self.tells(LANDS, turns)
            self.assertEqual([each[1:] for each in told], [each[1:] for each in LANDS])
            self.assertEqual(turned(told, turns_back(LANDS, turns)), LANDS)

    def test_lands_with_twelve_rules(self):
        rules = [(kind, since, since % 3, kind % 3) for kind in range(4) for since in (0, 7, LAST_DAY)]
        lands = (land(rules),) * 5
        self.assertTrue(are_lands(lands))
        for turn in ((4, 3, LAST_DAY, 2, 2), (0, 0, 0, 2, 2), (2, 1, 7, 0, 0)):
            told = self.tells(lands, (turn,))
            self.assertEqual(sum(low != high for low, high in zip(told, lands)), 1)
            self.assertEqual(turned(told, turns_back(lands, (turn,))), lands)

    def test_of_many_worlds(self):
        for lands, _ in full_worlds(60, 231):
            for key in sorted(all_rules(lands))[:10]:
                for turn in turns_of_rule(lands, key):
                    told = self.tells(lands, (turn,))
                    self.assertEqual(turned(told, turns_back(lands, (turn,))), lands)

    def test_told_again_it_is_the_same_and_what_was_handed_in_stays(self):
        rows = list(rows_of_turns(LANDS, 2))
        kept = copy.deepcopy((LANDS, rows))
        first = [turned(LANDS, turns) for turns in rows]
        for place in shuffled(len(rows), 233):
            self.assertEqual(turned(LANDS, rows[place]), first[place])
        self.assertEqual((LANDS, rows), kept)


class AllAlike(unittest.TestCase):
    def tells(self, lands, table):
        self.assertTrue(are_lands(lands) and all(is_book(lands, book) for book, _ in table))
        told = all_alike(lands, table)
        self.assertIs(told, plain_alike(lands, table))
        return told

    def test_one_land(self):
        for saying in (say(0), say(9)):
            lands = (land([(0, 0, 0, COURT)], [(0, 0, saying)]),)
            for case in (((), (0, 0, 0)), ((at_once(0, 0, 0),), (0, 0, LAST_DAY)), ((), (3, 99, 0))):
                self.assertIs(self.tells(lands, (case,)), True)
                self.assertIs(self.tells(lands, (case,) * 6), True)

    def test_customs_that_are_alike_or_not(self):
        lands = (land([], [(0, 0, say(1)), (1, 0, say(2))]), land([], [(0, 0, say(1)), (1, 5, say(2))]))
        self.assertIs(self.tells(lands, (((), (0, 7, 0)),)), True)
        self.assertIs(self.tells(lands, (((), (1, 7, 4)),)), False)
        self.assertIs(self.tells(lands, (((), (1, 7, 5)),)), True)
        # None in force says 0.
        self.assertIs(self.tells((EMPTY, land([], [(0, 0, say(0))])), (((), (0, 7, 4)),)), True)
        self.assertIs(self.tells((EMPTY, land([], [(0, 0, say(1))])), (((), (0, 7, 4)),)), False)

    def test_unlike_in_just_one_case_of_six(self):
        lands = (land([(0, 0, 0, COURT)], [(0, 0, say(1))]), land([], [(0, 0, say(2))]))
        alike = ((at_once(7, 0, 1),), (0, 7, 5))
        unlike = ((at_once(7, 0, 0),), (0, 7, 5))
        self.assertIs(self.tells(lands, (alike,)), True)
        self.assertIs(self.tells(lands, (unlike,)), False)
        self.assertIs(self.tells(lands, (alike,) * 6), True)
        for place in range(6):
            table = (alike,) * place + (unlike,) + (alike,) * (5 - place)
            self.assertIs(self.tells(lands, table), False)
        self.assertIs(self.tells(lands, (unlike,) * 6), False)

    def test_just_one_of_five_lands_is_unlike(self):
        alike = land([], [(0, 0, say(1))])
        for place in range(5):
            lands = put_at((alike,) * 5, (place,), land([], [(0, 0, say(2))]))
            self.assertIs(self.tells(lands, (((), (0, 0, 0)),)), False)
        self.assertIs(self.tells((alike,) * 5, (((), (0, 0, 0)),)), True)

    def test_many_worlds_turned_and_not(self):
        told = []
        for lands, table in thrown_tables(150, 235):
            for turns in list(rows_of_turns(lands, 1))[:9]:
                told.append(self.tells(turned(lands, turns), table))
                self.assertIs(told[-1], not clashes_in(plain_turned(lands, turns), table))
        self.assertGreater(min(told.count(True), told.count(False)), 100)

    def test_asked_again_behind_others_it_tells_the_same(self):
        calls = thrown_tables(100, 237)
        kept = copy.deepcopy(calls)
        first = [all_alike(*call) for call in calls]
        for place in shuffled(len(calls), 239):
            self.assertIs(all_alike(*calls[place]), first[place])
        self.assertEqual(calls, kept)


if __name__ == "__main__":
    unittest.main()
