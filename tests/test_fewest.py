import copy
import itertools
import random
import unittest

from plain_turns import (
    all_rules, clash_tree, plain_alike, plain_clashes_hold, plain_fewest_holds, plain_turned, rows_of_turns,
    turning_rows,
)
from samples import (
    ask, asking_most, at_once, changes, is_plain, land, long_book, nest, part_at, paths, put_at, say,
    things_of_every_kind, thrown_changes,
)
from whoselaw.clashes import clashes_hold
from whoselaw.facts import is_book
from whoselaw.fewest import fewest_holds, fewest_turns
from whoselaw.lands import are_lands
from whoselaw.turns import all_alike, turned
from worlds import shuffled, thrown_tables

ALONE, COURT = 0, 2
LAST_DAY = 10 ** 9
WHO = 7
BOOK = tuple(at_once(WHO, role, role) for role in range(3))
CASE = (BOOK, (0, WHO, 5))
TABLE = (CASE,)
CUSTOMS = [[(0, 0, say(number))] for number in (1, 2, 3)]
# Lands 0 and 1 go each to itself; land 2 has no rule, so all are alike only where both others go to it.
BY_TWO = tuple(land(rules, row) for rules, row in zip(([(0, 0, 0, ALONE)], [(0, 0, 1, ALONE)], []), CUSTOMS))
# Between the two rules stands another one.
APART = put_at(BY_TWO, (0, 0), ((0, 0, 0, ALONE), (1, 0, 0, ALONE)))
BY_ONE = put_at(BY_TWO, (1, 0), ((0, 0, 2, COURT),))
BY_NONE = BY_TWO + (land([], [(0, 0, say(4))]),)
ALIKE = put_at(BY_ONE, (0, 0), ((0, 0, 1, COURT),))
WORLDS = ((ALIKE, 0), (BY_ONE, 1), (BY_TWO, 2), (APART, 2), (BY_NONE, None))


def first(clashes):
    return clashes[0]


def paper_of(lands, table, number, turns, pick=first):
    """The paper of these turns, or that there are none, with some tree."""
    if turns is None:
        return ("none", clash_tree(lands, table, number, pick))
    return ("turns", turns, clash_tree(lands, table, len(turns) - 1, pick) if turns else None)


class Checked(unittest.TestCase):
    def tells(self, lands, table, number):
        """What is told, looked through by all rows of turns."""
        self.assertTrue(are_lands(lands) and all(is_book(lands, book) for book, _ in table))
        told = fewest_turns(lands, table, number)
        self.assertTrue(is_plain(told))
        self.assertIs(fewest_holds(lands, table, number, told), True)
        rows = turning_rows(lands, table, number)
        if not rows:
            self.assertEqual((told[0], len(told)), ("none", 2))
            self.assertTrue(plain_clashes_hold(lands, table, number, told[1]))
            return told
        word, turns, tree = told
        least = min(len(row) for row in rows)
        self.assertEqual((word, len(turns)), ("turns", least))
        self.assertIn(turns, rows)
        if least:
            self.assertTrue(plain_clashes_hold(lands, table, least - 1, tree))
        else:
            self.assertIsNone(tree)
        return told

    def good(self, thing, lands, number, table=TABLE):
        self.assertIs(fewest_holds(lands, table, number, thing), True)

    def bad(self, thing, lands, number, table=TABLE):
        # Large things are shown only where they are to blame.
        if fewest_holds(lands, table, number, thing) is not False:
            self.fail((number, repr(lands)[:500], repr(thing)[:500]))

    def as_due(self, thing, lands, number, table=TABLE):
        told = fewest_holds(lands, table, number, thing)
        if told is not plain_fewest_holds(lands, table, number, thing):
            self.fail((told, number, repr(lands)[:500], repr(thing)[:500]))
        return told


class Fewest(Checked):
    def test_alike_without_turns(self):
        for number in range(3):
            self.assertEqual(self.tells(ALIKE, TABLE, number), ("turns", (), None))
            self.assertEqual(self.tells((land([(0, 0, 0, 0)]),), (((), (0, WHO, 0)),), number), ("turns", (), None))
            self.assertEqual(self.tells(BY_TWO, (((), (3, WHO, 0)),), number), ("turns", (), None))

    def test_by_one_turn(self):
        self.assertEqual(self.tells(BY_ONE, TABLE, 0)[0], "none")
        for number in (1, 2):
            word, turns, tree = self.tells(BY_ONE, TABLE, number)
            self.assertEqual((turns[0][:3], tree[4]), ((0, 0, 0), ()))

    def test_by_two_turns(self):
        for lands in (BY_TWO, APART):
            self.assertEqual([self.tells(lands, TABLE, number)[0] for number in (0, 1)], ["none", "none"])
            word, turns, tree = self.tells(lands, TABLE, 2)
            self.assertEqual([turn[:3] for turn in turns], [(0, 0, 0), (1, 0, 0)])
            self.assertTrue(tree[4])

    def test_two_turns_of_one_land(self):
        # Two questions of unlike kinds, each wanting another rule of land 0 turned.
        lands = (land([(0, 0, 0, ALONE), (1, 0, 0, ALONE)], [(0, 0, say(1)), (1, 0, say(1))]),
                 land([], [(0, 0, say(2)), (1, 0, say(2))]))
        book = (at_once(WHO, 0, 0), at_once(WHO, 1, 1))
        table = ((book, (0, WHO, 5)), (book, (1, WHO, 5)))
        word, turns, tree = self.tells(lands, table, 2)
        self.assertEqual([turn[:4] for turn in turns], [(0, 0, 0, 1), (0, 1, 0, 1)])

    def test_turns_that_rise_where_the_later_one_is_wanted_first(self):
        # The first case wants land 1's rule turned, the second one land 0's.
        lands = (land([(1, 0, 0, ALONE)], [(0, 0, say(1)), (1, 0, say(1))]),
                 land([(0, 0, 1, ALONE)], [(0, 0, say(2)), (1, 0, say(2))]))
        book = (at_once(WHO, 0, 0), at_once(WHO, 1, 1))
        for cases in ((0, 1), (1, 0)):
            table = tuple((book, (kind, WHO, 5)) for kind in cases)
            word, turns, tree = self.tells(lands, table, 2)
            self.assertEqual([turn[:4] for turn in turns], [(0, 1, 0, 1), (1, 0, 0, 0)])

    def test_by_none(self):
        for number in range(3):
            self.assertEqual(self.tells(BY_NONE, TABLE, number)[0], "none")
        # Courts that clash and name no rule.
        lands = (land([(1, 0, 0, 0)], CUSTOMS[0]), land([], CUSTOMS[1]))
        for number in range(3):
            self.assertEqual(self.tells(lands, (((), (0, WHO, 5)),), number), ("none", ("clash", 0, 0, 1, ())))

    def test_one_case_and_six(self):
        cases = tuple((tuple(at_once(who, role, role) for role in range(3)), (0, who, who)) for who in range(6))
        for many in (1, 2, 6):
            for lands, least in WORLDS:
                told = self.tells(lands, cases[:many], 2)
                self.assertEqual(len(told[1]) if told[0] == "turns" else None, least)
        # In the last case all roles are in land 0, so what would do for the others doesn't do there.
        last = (tuple(at_once(9, role, 0) for role in range(3)), (0, 9, 0))
        self.assertEqual(self.tells(BY_ONE, cases[:5] + (last,), 2)[0], "none")
        self.assertEqual(self.tells(ALIKE, cases[:5] + (last,), 2)[0], "none")

    def test_many_worlds(self):
        found = {}
        for most, number in ((3, 0), (6, 1), (3, 2)):
            for lands, table in thrown_tables(120, 301 + most + number, most):
                told = self.tells(lands, table, number)
                key = (number, len(told[1]) if told[0] == "turns" else None)
                found[key] = found.get(key, 0) + 1
        self.assertEqual(set(found), {(0, 0), (0, None), (1, 0), (1, 1), (1, None), (2, 0), (2, 1), (2, 2), (2, None)})

    def test_asked_again_behind_others_it_tells_the_same(self):
        calls = [(lands, table, number) for lands, table in thrown_tables(40, 303) for number in range(3)]
        kept = copy.deepcopy(calls)
        told = [fewest_turns(*call) for call in calls]
        for place in shuffled(len(calls), 305):
            self.assertEqual(fewest_turns(*calls[place]), told[place])
            self.assertIs(fewest_holds(*calls[place], told[place]), True)
        self.assertEqual(calls, kept)


class RightPapers(Checked):
    def test_every_row_of_so_few_turns(self):
        for lands, least in WORLDS:
            rows = [turns for turns in turning_rows(lands, TABLE, 2) if len(turns) == least]
            for turns in rows:
                for number in range(least, 3):
                    self.good(paper_of(lands, TABLE, number, turns), lands, number)
            if least:
                self.assertGreater(len(rows), 2)

    def test_other_trees(self):
        dice = random.Random(307)
        for lands, least in ((BY_TWO, 2), (APART, 2), (BY_ONE, 1), (BY_NONE, None)):
            found = set()
            turns = None if least is None else fewest_turns(lands, TABLE, 2)[1]
            for _ in range(12):
                paper = paper_of(lands, TABLE, 2, turns, dice.choice)
                found.add(paper)
                self.good(paper, lands, 2)
            self.assertGreater(len(found), 1)

    def test_of_many_worlds(self):
        dice = random.Random(309)
        many = 0
        for most, number in ((3, 0), (6, 1), (3, 2)):
            for lands, table in thrown_tables(60, 311 + most + number, most):
                rows = turning_rows(lands, table, number)
                least = min((len(row) for row in rows), default=None)
                for turns in [row for row in rows if len(row) == least][:5] or [None]:
                    many += 1
                    self.good(paper_of(lands, table, number, turns, dice.choice), lands, number, table)
        self.assertGreater(many, 200)


class OtherPapers(Checked):
    def test_every_other_row_of_turns(self):
        """Rows that don't make the lands alike, and rows of more turns than are wanted."""
        for lands, least in WORLDS:
            told = []
            for number in range(3):
                trees = [None] + [clash_tree(lands, TABLE, many, first) for many in range(3)]
                for turns in list(rows_of_turns(lands, 2))[::3] + turning_rows(lands, TABLE, 2)[:10]:
                    for tree in trees:
                        told.append(self.as_due(("turns", turns, tree), lands, number))
            self.assertIn(False, told)
            self.assertIs(True in told, least is not None)

    def test_more_turns_than_can_be(self):
        for turns in turning_rows(BY_ONE, TABLE, 2):
            if len(turns) == 2:
                for many in range(2):
                    tree = clash_tree(BY_ONE, TABLE, many, first)
                    for number in range(3):
                        self.bad(("turns", turns, tree), BY_ONE, number)
                        self.bad(("turns", turns, None), BY_ONE, number)
        for turns in turning_rows(ALIKE, TABLE, 1):
            if turns:
                self.bad(("turns", turns, ("clash", 0, 0, 1, ())), ALIKE, 1)
                self.bad(("turns", turns, None), ALIKE, 1)

    def test_more_turns_than_the_number(self):
        word, turns, tree = fewest_turns(BY_TWO, TABLE, 2)
        self.good((word, turns, tree), BY_TWO, 2)
        for number in (0, 1):
            self.bad((word, turns, tree), BY_TWO, number)
        word, turns, tree = fewest_turns(BY_ONE, TABLE, 1)
        self.bad((word, turns, tree), BY_ONE, 0)

    def test_turns_that_are_not_rising_or_of_one_rule(self):
        word, turns, tree = fewest_turns(BY_TWO, TABLE, 2)
        self.bad((word, turns[::-1], tree), BY_TWO, 2)
        for low, high in itertools.product(turns, repeat=2):
            if (low, high) != turns:
                self.bad((word, (low, high), tree), BY_TWO, 2)
        # Two turns of one rule, of which the last one would do by itself.
        word, (turn,), tree = fewest_turns(BY_ONE, TABLE, 2)
        for role, way in itertools.product(range(3), range(3)):
            for row in ((turn[:3] + (role, way), turn), (turn, turn[:3] + (role, way))):
                for many in range(2):
                    self.bad((word, row, clash_tree(BY_ONE, TABLE, many, first)), BY_ONE, 2)

    def test_turns_of_no_rule_or_that_change_nothing(self):
        word, turns, tree = fewest_turns(BY_ONE, TABLE, 1)
        for turn in ((3, 0, 0, 1, 1), (-1, 0, 0, 1, 1), (2, 0, 0, 1, 1), (0, 1, 0, 1, 1), (0, 0, 1, 1, 1),
                     (5, 0, 0, 0, 0), (-3, 0, 0, 2, 2), (0, 0, 10 ** 9 + 1, 0, 0), (0, 4, 0, 0, 0)):
            self.bad((word, (turn,), tree), BY_ONE, 1)
            for row in ((turns[0], turn), (turn, turns[0])):
                self.bad((word, row, clash_tree(BY_ONE, TABLE, 1, first)), BY_ONE, 2)
        for key, both in all_rules(BY_ONE).items():
            self.bad((word, (key + both,), tree), BY_ONE, 1)
        # Beside two that do, a third that changes nothing; and as the second of two.
        word, turns, tree = fewest_turns(APART, TABLE, 2)
        self.bad((word, tuple(sorted(turns + ((0, 1, 0, 0, ALONE),))), tree), APART, 2)
        word, turns, tree = fewest_turns(BY_ONE, TABLE, 2)
        self.bad((word, turns + ((1, 0, 0, 2, COURT),), tree), BY_ONE, 2)
        self.bad((word, ((0, 0, 0, 0, ALONE),), None), ALIKE, 2)

    def test_roles_and_ways_beyond_their_bounds(self):
        word, turns, tree = fewest_turns(BY_ONE, TABLE, 1)
        for role, way in ((3, 0), (0, 3), (-1, 0), (2, -1), (True, 0), (2, True), (2, False), (2, None), (None, 2),
                          ("2", 2), (2, "court"), ((2,), 2), ([2], 2), (2, 10 ** 59)):
            self.bad((word, (turns[0][:3] + (role, way),), tree), BY_ONE, 1)

    def test_a_tree_for_another_number(self):
        for lands, least in WORLDS:
            trees = [clash_tree(lands, TABLE, many, first) for many in range(3)]
            for number in range(3):
                told = fewest_turns(lands, TABLE, number)
                for tree in trees:
                    self.as_due(put_at(told, (len(told) - 1,), tree), lands, number)
        self.bad(("none", clash_tree(BY_NONE, TABLE, 1, first)), BY_NONE, 2)
        self.bad(("none", clash_tree(BY_NONE, TABLE, 2, first)), BY_NONE, 1)

    def test_none_in_a_trees_stead_and_a_tree_in_nones(self):
        for lands, least in WORLDS:
            told = fewest_turns(lands, TABLE, 2)
            if least == 0:
                for tree in (("clash", 0, 0, 1, ()), (), False, 0, "", [], clash_tree(BY_TWO, TABLE, 0, first)):
                    self.bad(("turns", (), tree), lands, 2)
            else:
                self.bad(put_at(told, (len(told) - 1,), None), lands, 2)
                self.bad(("turns", (), told[-1]), lands, 2)
                self.bad(("turns", (), None), lands, 2)

    def test_one_word_in_the_others_dress(self):
        for lands, least in WORLDS:
            for number in range(3):
                told = fewest_turns(lands, TABLE, number)
                tree = told[-1]
                for made in (("none", None), ("none", (), tree), ("none", told[1], tree), ("turns", tree), ("turns",),
                             ("none",), ("turns", None, tree), ("turns", tree, ()), ("none", tree, None), tree,
                             told + (None,), told + (tree,), told[1:], (told,), (told[0], told),
                             ("turns", (tree,), None), ("none", ("none", tree)), ("Turns",) + told[1:],
                             ("",) + told[1:], (None,) + told[1:]):
                    if made != told:
                        self.bad(made, lands, number)

    def test_any_one_part_put_otherwise_at_any_depth(self):
        for lands, least in ((ALIKE, 0), (BY_ONE, 1)):
            for number in range(3):
                for changed in changes(fewest_turns(lands, TABLE, number)):
                    self.as_due(changed, lands, number)
        for lands, number in ((BY_NONE, 0), (BY_TWO, 1)):
            for changed in changes(fewest_turns(lands, TABLE, number)):
                self.as_due(changed, lands, number)

    def test_some_part_of_larger_papers(self):
        dice = random.Random(313)
        for lands, number in ((BY_TWO, 2), (APART, 2), (BY_NONE, 2)):
            paper = fewest_turns(lands, TABLE, number)
            for changed in thrown_changes(dice, paper, 150):
                self.as_due(changed, lands, number)

    def test_truths_where_a_number_is_due(self):
        changed = 0
        for lands, number in ((BY_ONE, 1), (BY_TWO, 1), (BY_TWO, 2), (BY_NONE, 1)):
            paper = fewest_turns(lands, TABLE, number)
            for path in paths(paper):
                part = part_at(paper, path)
                if type(part) is int and part in (0, 1):
                    changed += 1
                    self.bad(put_at(paper, path, bool(part)), lands, number)
        self.assertGreater(changed, 200)

    def test_papers_that_are_right_elsewhere(self):
        worlds = [(lands, TABLE) for lands, _ in WORLDS] + thrown_tables(15, 315)
        papers = [fewest_turns(lands, table, number) for lands, table in worlds for number in range(3)]
        for lands, table in worlds:
            for number in range(3):
                for paper in papers:
                    self.as_due(paper, lands, number, table)

    def test_of_many_worlds(self):
        dice = random.Random(317)
        for most, number in ((3, 0), (6, 1), (3, 2)):
            for lands, table in thrown_tables(60, 319 + most + number, most):
                paper = fewest_turns(lands, table, number)
                for changed in thrown_changes(dice, paper, 10):
                    self.as_due(changed, lands, number, table)


class OtherThings(Checked):
    def test_in_the_papers_place(self):
        for lands, least in WORLDS:
            told = fewest_turns(lands, TABLE, 2)
            for thing in things_of_every_kind() + [()]:
                for made in (thing, (thing,), (thing, thing), (thing,) * 3, ("none", thing), ("turns", thing, None),
                             ("turns", thing, told[-1]), ("turns", (thing,), None), ("turns", (thing,), told[-1]),
                             ("turns", (thing, thing), told[-1]), told + (thing,), (thing,) + told[1:],
                             ("turns", ((0, 0, 0, 1, thing),), told[-1]) if type(thing) is not int else thing,
                             ("turns", (), thing) if thing is not None else thing):
                    if made != told:
                        self.bad(made, lands, 2)

    def test_in_each_place_of_a_paper(self):
        things = things_of_every_kind()
        for lands, number in ((ALIKE, 2), (BY_ONE, 1)):
            paper = fewest_turns(lands, TABLE, number)
            for path in paths(paper):
                for thing in things:
                    self.as_due(put_at(paper, path, thing), lands, number)

    def test_deep_and_large_things(self):
        turn = (0, 0, 0, 0, 1)
        word, turns, tree = fewest_turns(BY_TWO, TABLE, 2)
        for number in range(3):
            self.bad(("none", nest(12, lambda inner: ("clash", 0, 0, 1, ((turn, inner),)), ())), BY_TWO, number)
            self.bad((word, turns * 1500, tree), BY_TWO, number)
            self.bad((word, turns, put_at(tree, (4,), tree[4] * 40)), BY_TWO, number)
            self.bad((word, turns, tree) * 20, BY_TWO, number)

    def test_what_was_handed_in_stays(self):
        thing = list(fewest_turns(BY_TWO, TABLE, 2))
        kept = copy.deepcopy((thing, BY_TWO, TABLE))
        for made in (thing, tuple(thing), ("turns", thing, thing[2]), ("none", thing)):
            fewest_holds(BY_TWO, TABLE, 2, made)
        self.assertEqual((thing, BY_TWO, TABLE), kept)


class Bounds(Checked):
    def told(self, lands, table, number):
        self.assertTrue(are_lands(lands) and all(is_book(lands, book) for book, _ in table))
        told = fewest_turns(lands, table, number)
        self.assertIs(fewest_holds(lands, table, number, told), True)
        return told

    def test_five_lands_six_cases_and_full_books(self):
        table = tuple((long_book(who), (3, who, LAST_DAY)) for who in (0, 99, 17, 40, 55, 81))
        self.assertEqual({len(book) for book, _ in table}, {60})
        lands = []
        for number in range(5):
            customs = asking_most()
            customs[3] = (3, 0, ask(2, ask(2, ask(2, say(5 + number % 2), say(0)), say(0)), say(0)))
            # Lands 0 and 2 go to themselves or nowhere, 4 to land 2: one turn for each of them that goes wrong.
            lands.append(land([(3, 0, number % 3, COURT)] if number % 2 == 0 else [], customs))
        lands = tuple(lands)
        self.assertEqual(len(all_rules(lands)), 3)
        for number in range(3):
            told = self.told(lands, table, number)
            least = [row for row in rows_of_turns(lands, number) if all_alike(turned(lands, row), table)]
            self.assertEqual(told[0], "turns" if least else "none")
        # Six rules in all and one turn.
        six = tuple(put_at(each, (0,), each[0] + ((3, 1, 0, ALONE),) if number < 3 else each[0])
                    for number, each in enumerate(lands))
        six = tuple(put_at(each, (0,), tuple(sorted({rule[:2]: rule for rule in each[0]}.values()))) for each in six)
        self.assertEqual(len(all_rules(six)), 6)
        for number in (0, 1):
            told = self.told(six, table, number)
            least = [row for row in rows_of_turns(six, number) if all_alike(turned(six, row), table)]
            self.assertEqual(told[0], "turns" if least else "none")

    def test_the_clash_stands_in_the_last_case(self):
        table = tuple((long_book(who), (0, who, LAST_DAY)) for who in (0, 99, 17, 40, 55))
        table += ((long_book(81), (1, 81, LAST_DAY)),)
        for last, word in ((6, "none"), (5, "turns")):
            customs = [[(0, 0, say(1)), (1, 0, say(5))]] * 4 + [[(0, 0, say(1)), (1, 0, say(last))]]
            rules = [[(1, 0, 0, COURT)], [(1, 0, 1, COURT)], [(1, 0, 2, COURT)], [], []]
            lands = tuple(land(*row) for row in zip(rules, customs))
            told = self.told(lands, table, 2)
            self.assertEqual((told[0], len(told)), (word, 2 if word == "none" else 3))
            if word == "none":
                self.assertEqual(told[1][1], 5)

    def test_the_first_and_the_last_day_and_ones(self):
        for day, who in itertools.product((0, LAST_DAY), (0, 99)):
            lands = (land([(0, day, 0, ALONE)], [(0, 0, say(1))]), land([], [(0, 0, say(2))]))
            book = (at_once(who, 0, 0, day), at_once(who, 1, 1, day))
            told = self.tells(lands, ((book, (0, who, day)),), 2)
            self.assertEqual((told[0], told[1][0][:4]), ("turns", (0, 0, day, 1)))


class Alike(unittest.TestCase):
    """Point 3, (h): turns that are told make all courts alike on each case of a table."""

    def test_turns_that_are_told_or_let_by(self):
        dice = random.Random(321)
        many = 0
        for most, number in ((3, 0), (6, 1), (3, 2)):
            for lands, table in thrown_tables(100, 323 + most + number, most):
                paper = fewest_turns(lands, table, number)
                for made in [paper] + thrown_changes(dice, paper, 6):
                    if not fewest_holds(lands, table, number, made):
                        continue
                    if made[0] == "turns":
                        many += 1
                        self.assertTrue(plain_alike(plain_turned(lands, made[1]), table))
                        self.assertLessEqual(len(made[1]), number)
                        self.none_is_left(lands, table, len(made[1]) - 1)
                    else:
                        self.assertIs(clashes_hold(lands, table, number, made[1]), True)
                        self.none_is_left(lands, table, number)
        self.assertGreater(many, 50)

    def none_is_left(self, lands, table, number):
        for turns in rows_of_turns(lands, number):
            self.assertIs(all_alike(turned(lands, turns), table), False)


if __name__ == "__main__":
    unittest.main()
