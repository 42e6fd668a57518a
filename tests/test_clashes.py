import copy
import itertools
import random
import unittest

from plain_turns import (
    all_clash_trees, all_rules, branches_due, clash_tree, clashes_in, plain_clashes_hold, plain_turned, turning_rows,
)
from samples import (
    ask, asking_most, at_once, changes, is_plain, land, long_book, nest, part_at, paths, put_at, say,
    things_of_every_kind, thrown_changes,
)
from whoselaw.clashes import clashes_hold
from whoselaw.facts import is_book
from whoselaw.lands import are_lands
from worlds import shuffled, thrown_tables

ALONE, TAKEN, COURT = range(3)
LAST_DAY = 10 ** 9
WHO = 7
# Each role leads to another land; land 0 goes by role 0 and land 1 by role 1, so each to itself; land 2 has no rule.
BOOK = tuple(at_once(WHO, role, role) for role in range(3))
TABLE = ((BOOK, (0, WHO, 5)),)
LANDS = (
    land([(0, 0, 0, ALONE)], [(0, 0, say(1))]),
    land([(0, 0, 1, ALONE)], [(0, 0, say(2))]),
    land([], [(0, 0, say(3))]),
)
# Here land 0 has a rule of another kind, too, and the second case is one without rules in force.
MORE = put_at(LANDS, (0, 0), ((0, 0, 0, ALONE), (1, 3, 2, COURT)))
MORE = put_at(MORE, (2, 1), ((0, 0, say(3)), (1, 0, say(4))))
MORE_TABLE = (((), (1, WHO, 2)), (BOOK, (0, WHO, 5)), (BOOK, (1, WHO, LAST_DAY)))


def first(clashes):
    return clashes[0]


def last(clashes):
    return clashes[-1]


class Checked(unittest.TestCase):
    def good(self, thing, number, lands=LANDS, table=TABLE):
        self.assertTrue(is_plain(thing))
        self.assertIs(clashes_hold(lands, table, number, thing), True)

    def bad(self, thing, number, lands=LANDS, table=TABLE):
        # Large things are shown only where they are to blame.
        if clashes_hold(lands, table, number, thing) is not False:
            self.fail((number, repr(thing)[:500]))

    def as_due(self, thing, number, lands=LANDS, table=TABLE):
        told = clashes_hold(lands, table, number, thing)
        if told is not plain_clashes_hold(lands, table, number, thing):
            self.fail((told, number, repr(lands)[:500], repr(thing)[:500]))
        return told


def tree_of(number, pick=first, lands=LANDS, table=TABLE):
    tree = clash_tree(lands, table, number, pick)
    assert tree is not None
    return tree


class RightTrees(Checked):
    def test_what_they_are_tried_on(self):
        for lands, table in ((LANDS, TABLE), (MORE, MORE_TABLE)):
            self.assertTrue(are_lands(lands) and all(is_book(lands, book) for book, _ in table))
        self.assertEqual(clashes_in(LANDS, TABLE), [(0, 0, 1), (0, 0, 2), (0, 1, 2)])

    def test_the_number_0(self):
        for case, one, other in clashes_in(MORE, MORE_TABLE):
            self.good(("clash", case, one, other, ()), 0, MORE, MORE_TABLE)
        for one, other in itertools.combinations(range(3), 2):
            self.good(("clash", 0, one, other, ()), 0)

    def test_the_number_1_by_every_case_and_lands(self):
        for lands, table in ((LANDS, TABLE), (MORE, MORE_TABLE)):
            found = set()
            for clash in clashes_in(lands, table):
                tree = clash_tree(lands, table, 1, lambda rows: clash if clash in rows else rows[-1])
                if tree is not None and tree[1:4] == clash:
                    found.add(clash)
                    self.good(tree, 1, lands, table)
            self.assertGreater(len(found), 2)

    def test_no_branches_where_no_rule_is_named(self):
        lands = (land([], [(0, 0, say(1))]), land([(1, 0, 0, 0)], [(0, 0, say(2))]))
        for number in (0, 1, 2):
            self.good(("clash", 0, 0, 1, ()), number, lands)
            self.bad(("clash", 0, 0, 1, (((1, 1, 0, 0, 1), ("clash", 0, 0, 1, ())),)), number, lands)

    def test_eight_turns_of_each_rule_that_is_named(self):
        # The courts of lands 0 and 1 name a rule each, that of land 2 none.
        for one, other, many in ((0, 1, 16), (0, 2, 8), (1, 2, 8)):
            tree = clash_tree(LANDS, TABLE, 1, lambda rows: max(rows, key=lambda row: row[1:] == (one, other)))
            self.assertEqual((tree[2:4], len(tree[4])), ((one, other), many))
            self.good(tree, 1)

    def test_a_rule_that_both_name_is_turned_once(self):
        # Land 0 takes over how land 1's rule goes, land 1 how land 2's does: so both courts name land 1's rule.
        rules = [[(0, 0, role, TAKEN)] for role in (1, 2, 0)] + [[], []]
        lands = tuple(land(row, [(0, 0, say(number))]) for number, row in enumerate(rules))
        table = ((tuple(at_once(WHO, role, place) for role, place in ((0, 3), (1, 1), (2, 2))), (0, WHO, 0)),)
        self.assertIn((0, 0, 1), clashes_in(lands, table))
        tree = clash_tree(lands, table, 1, lambda clashes: max(clashes, key=lambda clash: clash == (0, 0, 1)))
        self.assertEqual((tree[2:4], len(tree[4])), ((0, 1), 24))
        self.good(tree, 1, lands, table)
        for place in range(8, 16):
            self.assertEqual(tree[4][place][0][:3], (1, 0, 0))
            self.bad(put_at(tree, (4,), tree[4][:place] + tree[4][place:place + 1] + tree[4][place:]), 1, lands, table)

    def test_the_number_2_and_a_rule_turned_on_the_way_down_that_is_named_below(self):
        lands = put_at(LANDS, (2, 1), ())
        lands = lands[:2] + (land([(0, 0, 2, ALONE)], [(0, 0, say(3))]),) + (land([], [(0, 0, say(4))]),)
        table = ((BOOK, (0, WHO, 5)),)
        self.assertEqual(turning_rows(lands, table, 2), [])
        for pick in (first, last, random.Random(241).choice):
            tree = clash_tree(lands, table, 2, pick)
            self.good(tree, 2, lands, table)
            below = [branch for _, inner in tree[4] for branch in inner[4]]
            self.assertTrue(below)
        # Below a turn of a rule no branch turns it again, though the tree there names it.
        tree = clash_tree(lands, table, 2, first)
        named_again = 0
        for turn, inner in tree[4]:
            self.assertNotIn(turn[:3], [low[:3] for low, _ in inner[4]])
            then = plain_turned(lands, (turn,))
            named_again += turn[:3] in [low[:3] for low in branches_due(then, table, inner[1:4], ())]
        self.assertGreater(named_again, 5)

    def test_every_tree(self):
        trees = all_clash_trees(LANDS, TABLE, 0)
        self.assertEqual(len(trees), 3)
        lands = (land([(0, 0, 0, ALONE)], [(0, 0, say(1))]), land([], [(0, 0, say(2))]), land([], [(0, 0, say(3))]))
        trees = all_clash_trees(lands, TABLE, 1) + all_clash_trees(lands, TABLE, 2)
        self.assertGreater(len(trees), 500)
        for tree in trees[::3]:
            # Below the turn of the only rule there is no other one: so a tree for 1 is one for 2.
            for number in (1, 2):
                self.good(tree, number, lands)

    def test_of_many_worlds(self):
        dice = random.Random(243)
        sizes = []
        for most, number in ((3, 0), (3, 1), (3, 2), (6, 1), (12, 1)):
            for lands, table in thrown_tables(80, 245 + most + number, most):
                tree = clash_tree(lands, table, number, dice.choice)
                if tree is not None:
                    sizes.append(len(tree[4]))
                    self.good(tree, number, lands, table)
        self.assertGreater(len(sizes), 120)
        self.assertGreater(max(sizes), 16)

    def test_asked_again_behind_others_it_tells_the_same(self):
        calls = []
        dice = random.Random(247)
        for lands, table in thrown_tables(100, 249):
            for number in (0, 1):
                tree = clash_tree(lands, table, number, dice.choice)
                calls += [(lands, table, each, tree) for each in (0, 1, 2)]
        kept = copy.deepcopy(calls)
        told = [clashes_hold(*call) for call in calls]
        self.assertEqual({True, False}, set(told))
        for place in shuffled(len(calls), 251):
            self.assertIs(clashes_hold(*calls[place]), told[place])
        self.assertEqual(calls, kept)


class OtherTrees(Checked):
    def test_a_tree_for_another_number(self):
        lands = LANDS[:2] + (land([(0, 0, 2, ALONE)], [(0, 0, say(3))]),) + (land([], [(0, 0, say(4))]),)
        trees = [clash_tree(lands, TABLE, number, first) for number in range(3)]
        for low, high in itertools.product(range(3), repeat=2):
            self.assertIs(self.as_due(trees[low], high, lands), low == high)

    def test_a_case_or_lands_that_do_not_clash(self):
        alike = ((at_once(WHO, 0, 2), at_once(WHO, 1, 2)), (0, WHO, 5))
        table = (alike,) + TABLE + (alike,)
        clashing = clashes_in(LANDS, table)
        for case, one, other in itertools.product(range(-3, 5), range(-3, 5), range(-3, 5)):
            told = self.as_due(("clash", case, one, other, ()), 0, LANDS, table)
            self.assertIs(told, (case, one, other) in clashing)
        self.assertEqual({clash[0] for clash in clashing}, {1})

    def test_one_above_or_like_other(self):
        for one, other in itertools.product(range(3), repeat=2):
            for number in (0, 1):
                tree = tree_of(number)
                self.as_due(put_at(put_at(tree, (2,), one), (3,), other), number)
        self.bad(("clash", 0, 1, 0, ()), 0)
        self.bad(("clash", 0, 1, 1, ()), 0)

    def test_a_branch_too_few_too_many_twice_or_in_another_order(self):
        tree = tree_of(1)
        row = tree[4]
        self.assertEqual(len(row), 16)
        for place, branch in enumerate(row):
            self.bad(put_at(tree, (4,), row[:place] + row[place + 1:]), 1)
            for at in range(len(row) + 1):
                self.bad(put_at(tree, (4,), row[:at] + (branch,) + row[at:]), 1)
            for other in range(place):
                low = put_at(row, (place,), row[other])
                self.bad(put_at(tree, (4,), low), 1)
                self.bad(put_at(tree, (4,), put_at(low, (other,), branch)), 1)
        self.bad(put_at(tree, (4,), row[::-1]), 1)
        self.bad(put_at(tree, (4,), row + row), 1)

    def test_the_ninth_turn_that_changes_nothing(self):
        tree = tree_of(1)
        below = tree_of(0)
        for key, both in all_rules(LANDS).items():
            row = dict(tree[4] + ((key + both, below),))
            self.bad(put_at(tree, (4,), tuple(sorted(row.items()))), 1)
        for turn in ((2, 0, 0, 0, 0), (0, 0, 1, 0, 0), (0, 1, 0, 0, 0), (0, 0, 0, 3, 0), (0, 0, 0, 0, 3),
                     (3, 0, 0, 0, 0)):
            row = dict(tree[4] + ((turn, below),))
            self.bad(put_at(tree, (4,), tuple(sorted(row.items()))), 1)
            for place in range(16):
                self.bad(put_at(tree, (4, place, 0), turn), 1)

    def test_a_turn_of_a_rule_that_is_named_by_another_court_only(self):
        # The clash is between lands 0 and 2, the rule that of land 1.
        tree = clash_tree(LANDS, TABLE, 1, lambda rows: max(rows, key=lambda row: row[1:] == (0, 2)))
        self.good(tree, 1)
        whole = tree_of(1)[4]
        row = {**dict(whole), **dict(tree[4])}
        self.assertEqual(len(row), 16)
        self.bad(put_at(tree, (4,), tuple(sorted(row.items()))), 1)
        self.bad(put_at(tree, (4,), whole[8:]), 1)

    def test_another_branchs_tree(self):
        for number in (1, 2):
            lands = LANDS[:2] + (land([(0, 0, 2, ALONE)] if number == 2 else [], [(0, 0, say(3))]),)
            lands += (land([], [(0, 0, say(4))]),)
            tree = clash_tree(lands, TABLE, number, first)
            told = []
            for low, high in itertools.permutations(range(len(tree[4])), 2):
                told.append(self.as_due(put_at(tree, (4, low, 1), tree[4][high][1]), number, lands))
            self.assertGreater(told.count(False), 20)

    def test_branches_where_the_number_is_0_and_none_where_it_is_not(self):
        for number in (1, 2):
            self.bad(put_at(tree_of(1), (4,), ()), number)
        self.bad(tree_of(1), 0)
        self.bad(put_at(tree_of(1), (4,), tree_of(1)[4][:1]), 0)
        self.bad(put_at(tree_of(1), (4, 3, 1), tree_of(1)), 1)
        for below in ([], {}, None, 0, False, "", ((),), (None,), ((), ())):
            self.bad(put_at(tree_of(0), (4,), below), 0)

    def test_a_rule_turned_on_the_way_down_is_not_turned_again(self):
        lands = (land([(0, 0, 0, ALONE)], [(0, 0, say(1))]), land([], [(0, 0, say(2))]), land([], [(0, 0, say(3))]))
        tree = clash_tree(lands, TABLE, 2, first)
        self.good(tree, 2, lands)
        for place, (turn, inner) in enumerate(tree[4]):
            then = plain_turned(lands, (turn,))
            # The tree below, if its rule might be turned again.
            wrong = clash_tree(then, TABLE, 1, first)
            if wrong != inner:
                self.bad(put_at(tree, (4, place, 1), wrong), 2, lands)

    def test_any_one_part_put_otherwise_at_any_depth(self):
        for changed in changes(tree_of(0)):
            self.as_due(changed, 0)
        tree = clash_tree(LANDS, TABLE, 1, lambda rows: max(rows, key=lambda row: row[1:] == (0, 2)))
        for changed in changes(tree):
            self.as_due(changed, 1)
        lands = (land([(0, 0, 0, ALONE)], [(0, 0, say(1))]), land([], [(0, 0, say(2))]), land([], [(0, 0, say(3))]))
        for changed in changes(clash_tree(lands, TABLE, 2, last)):
            self.as_due(changed, 2, lands)

    def test_some_part_of_a_larger_tree(self):
        dice = random.Random(253)
        lands = LANDS[:2] + (land([(0, 0, 2, ALONE)], [(0, 0, say(3))]),) + (land([], [(0, 0, say(4))]),)
        tree = clash_tree(lands, TABLE, 2, dice.choice)
        for changed in thrown_changes(dice, tree, 250):
            self.as_due(changed, 2, lands)

    def test_truths_where_a_number_is_due(self):
        changed = 0
        for lands, table in ((LANDS, TABLE), (MORE, MORE_TABLE)):
            for number, pick in itertools.product((0, 1), (first, last, lambda clashes: clashes[len(clashes) // 2])):
                tree = clash_tree(lands, table, number, pick)
                self.good(tree, number, lands, table)
                for path in paths(tree):
                    part = part_at(tree, path)
                    if type(part) is int and part in (0, 1):
                        changed += 1
                        self.bad(put_at(tree, path, bool(part)), number, lands, table)
        self.assertGreater(changed, 200)

    def test_of_many_worlds(self):
        dice = random.Random(255)
        told = []
        for most, number in ((3, 1), (3, 2), (6, 1)):
            for lands, table in thrown_tables(60, 257 + most + number, most):
                tree = clash_tree(lands, table, number, dice.choice)
                if tree is not None:
                    for changed in thrown_changes(dice, tree, 15):
                        told.append(self.as_due(changed, number, lands, table))
        self.assertGreater(told.count(False), 500)

    def test_trees_that_are_right_elsewhere(self):
        dice = random.Random(259)
        worlds = thrown_tables(40, 261)
        trees = [clash_tree(lands, table, 1, dice.choice) for lands, table in worlds]
        for lands, table in worlds:
            for tree in trees:
                self.as_due(tree, 1, lands, table)


class OtherThings(Checked):
    def test_in_the_trees_place(self):
        tree = tree_of(1)
        for thing in things_of_every_kind() + [()]:
            for number in (0, 1, 2):
                for made in (thing, (thing,), ("clash", thing, 0, 1, ()), ("clash", 0, thing, 1, ()),
                             ("clash", 0, 0, thing, ()) if thing not in (1, 2) or thing is True else thing,
                             ("clash", 0, 0, 1, thing) if thing != () else thing, (thing,) * 5,
                             ("clash",) + (thing,) * 4, ("clash", 0, 0, 1, (thing,)), tree + (thing,),
                             (thing,) + tree[1:],
                             ("clash", 0, 0, 1, (thing,) * 16), ("clash", 0, 0, 1, ((thing, thing),) * 16)):
                    if made != tree_of(0):
                        self.bad(made, number)

    def test_in_each_place_of_a_tree(self):
        things = things_of_every_kind()
        for number in (0, 1):
            tree = clash_tree(LANDS, TABLE, number, lambda rows: max(rows, key=lambda row: row[1:] == (0, 2)))
            for path in paths(tree):
                part = part_at(tree, path)
                for thing in things:
                    if type(thing) is not type(part) or thing != part:
                        changed = put_at(tree, path, thing)
                        if type(thing) is int and type(part) is int:
                            self.as_due(changed, number)
                        else:
                            self.bad(changed, number)

    def test_deep_and_large_things(self):
        turn = (0, 0, 0, 0, 1)
        for number in (0, 1, 2):
            for depth in (10, 13):
                deep = nest(depth, lambda inner: ("clash", 0, 0, 1, ((turn, inner),)), ())
                self.bad(deep, number)
                deep = nest(depth, lambda inner: ("clash", 0, 0, 2, ((turn, inner),) * 8), ())
                self.bad(put_at(deep, (4,), deep[4][:2]), number)
            self.bad(nest(40, lambda inner: ("clash", 0, 0, 1, inner), ()), number)
            self.bad(("clash", 0, 0, 1, ((turn, ()),) * 5000), number)
            self.bad(("clash", 0, 0, 1, ((turn, tree_of(0)),) * 1500), number)
            self.bad(put_at(tree_of(1), (4,), tree_of(1)[4] * 60), number)
            self.bad(tree_of(1) * 60, number)

    def test_what_was_handed_in_stays(self):
        thing = [list(tree_of(1)), {"a": tree_of(0)}]
        kept = copy.deepcopy((thing, LANDS, TABLE))
        for made in (thing, tuple(thing), tuple(thing[0]), ("clash", 0, 0, 1, thing)):
            for number in (0, 1, 2):
                clashes_hold(LANDS, TABLE, number, made)
        self.assertEqual((thing, LANDS, TABLE), kept)


class Bounds(Checked):
    def full_lands(self):
        """Five lands with twelve rules each, of which twenty are in force on the last day."""
        lands = []
        for number in range(5):
            customs = asking_most()
            customs[3] = (3, 0, put_at(customs[3][2], (4, 4, 4), say(1 + number)))
            rules = [(kind, since, (number + kind) % 3, (kind + number) % 3)
                     for kind in range(4) for since in (0, 1, LAST_DAY)]
            lands.append(land(rules, customs))
        return tuple(lands)

    def test_twelve_rules_of_five_lands_in_six_cases(self):
        lands = self.full_lands()
        table = tuple((long_book(who), (3, who, LAST_DAY)) for who in (0, 99, 17, 40, 55, 81))
        self.assertTrue(are_lands(lands) and all(is_book(lands, book) for book, _ in table))
        self.assertEqual({len(book) for book, _ in table}, {60})
        self.assertEqual(len(all_rules(lands)), 60)
        clashes = clashes_in(lands, table)
        self.assertTrue(clashes)
        for clash in clashes[:3] + clashes[-3:]:
            self.good(("clash",) + clash + ((),), 0, lands, table)
        # Land 4 says another thing of kind 0 and has no rules: so no turn makes all alike, and the tree is wide.
        lands = lands[:4] + (land([], [(3, 0, say(9))]),)
        table = (table[0], table[1])
        width = {clash: len(branches_due(lands, table, clash, ())) for clash in clashes_in(lands, table)}
        tree = clash_tree(lands, table, 1, lambda rows: max(rows, key=lambda clash: width.get(clash, 0)))
        self.assertGreaterEqual(len(tree[4]), 64)
        self.good(tree, 1, lands, table)
        for place in (0, len(tree[4]) // 2, len(tree[4]) - 1):
            self.bad(put_at(tree, (4,), tree[4][:place] + tree[4][place + 1:]), 1, lands, table)
            self.as_due(put_at(tree, (4, place, 1, 2), 0), 1, lands, table)
            self.bad(put_at(tree, (4, place, 1, 4), None), 1, lands, table)

    def test_three_rules_and_the_number_2(self):
        sayings = [ask(2, ask(2, ask(2, say(answer), say(0)), say(0)), say(0)) for answer in range(1, 6)]
        lands = tuple(land([(kind, 0, kind, COURT)] if kind < 3 else [], asking_most()[:3] + [(3, 0, saying)])
                      for kind, saying in enumerate(sayings))
        table = tuple((long_book(who), (3, who, LAST_DAY)) for who in (0, 99, 17, 40, 55, 81))
        self.assertTrue(are_lands(lands) and all(is_book(lands, book) for book, _ in table))
        for pick in (first, last):
            tree = clash_tree(lands, table, 2, pick)
            self.good(tree, 2, lands, table)
        lands = tuple(land([(3, number, number % 3, ALONE)] if number < 3 else [], each[1])
                      for number, each in enumerate(lands))
        tree = clash_tree(lands, table, 2, first)
        self.assertEqual(len(tree[4]), 16)
        self.good(tree, 2, lands, table)
        self.as_due(put_at(tree, (4, 15, 1, 4, 7, 1, 3), 0), 2, lands, table)

    def test_the_first_and_the_last_day_and_ones(self):
        for day, who in itertools.product((0, LAST_DAY), (0, 99)):
            lands = (land([(0, day, 0, ALONE)], [(0, 0, say(1))]), land([], [(0, 0, say(2))]), land([], []))
            book = (at_once(who, 0, 1, day),)
            table = ((book, (0, who, day)),)
            for number in (0, 1):
                tree = clash_tree(lands, table, number, first)
                self.good(tree, number, lands, table)
                self.assertEqual(len(tree[4]), 8 * number)


if __name__ == "__main__":
    unittest.main()
