import copy
import itertools
import random
import unittest

from refusing import Refusing
from samples import EMPTY, at_once, beside, is_plain, land, put_at, say, things_of_every_kind
from whoselaw.errors import NoFact, NoRule, NotTold, TooMany, Twice
from whoselaw.facts import is_book
from whoselaw.lands import are_lands, is_rule
from whoselaw.realms import Folk, Realm
from worlds import full_worlds

LAST_DAY = 10 ** 9
LANDS = (
    land([(0, 0, 0, 0), (0, 5, 1, 1)], [(0, 0, say(1))], [(0, (((0, 1, None, 0),),))], [(1, 0, 1)], [(0, 0, 0)]),
    EMPTY,
    land([(1, 1, 1, 1)], [(1, 0, say(2))]),
)


class Folks(Refusing):
    def setUp(self):
        self.realm = Realm(LANDS)
        self.folk = Folk(self.realm)

    def stays(self, error, deed, *args):
        before = self.folk.book()
        self.refused(error, deed, *args)
        self.assertEqual(self.folk.book(), before)

    def test_a_new_one_has_no_facts(self):
        self.assertEqual(self.folk.book(), ())
        self.assertIs(type(self.folk.book()), tuple)

    def test_facts_are_told_in_any_order(self):
        facts = (at_once(0, 0, 0), at_once(0, 0, 2, 1), beside(0, 3, 99, LAST_DAY), at_once(1, 0, 1), beside(99, 3, 0))
        for order in itertools.permutations(facts):
            folk = Folk(self.realm)
            for many, fact in enumerate(order):
                self.assertIsNone(folk.put(fact))
                self.assertEqual(folk.book(), tuple(sorted(order[:many + 1])))
            self.assertTrue(is_book(LANDS, folk.book()) and is_plain(folk.book()))

    def test_what_is_no_fact(self):
        self.folk.put(at_once(5, 1, 1, 1))
        good = (5, 1, 2, ("in", 0))
        for bad in (
            (100, 1, 2, ("in", 0)), (-1, 1, 2, ("in", 0)), (5, 4, 2, ("in", 0)), (5, -1, 2, ("in", 0)),
            (5, 1, LAST_DAY + 1, ("in", 0)), (5, 1, -1, ("in", 0)), (5, 1, 2, ("in", 3)), (5, 1, 2, ("in", -1)),
            (5, 1, 2, ("with", 5)), (5, 1, 2, ("with", 100)), (5, 1, 2, ("with", -1)), (5, 1, 2, ("at", 0)),
            (5, 1, 2, ("in",)), (5, 1, 2, ("in", 0, 0)), (5, 1, 2), (5, 1, 2, ("in", 0), 0), (5, 1, 2, "in"),
            (True, 1, 2, ("in", 0)), (5, True, 2, ("in", 0)), (5, 1, True, ("in", 0)), (5, 1, 2, ("in", True)),
            (5, 1, 2, ("in", False)), (5, 1, 2, ("with", True)), (None, 1, 2, ("in", 0)), ("5", 1, 2, ("in", 0)),
            (5, 1, 2, ["in", 0]), [5, 1, 2, ("in", 0)], (5, 1, 2, None), (5, 1, 2, ("no",)), (good,), [good], {good: 1},
        ):
            self.stays(NoFact, self.folk.put, bad)
        self.folk.put(good)

    def test_things_of_every_kind_are_no_facts(self):
        good = (5, 1, 2, ("in", 0))
        for thing in things_of_every_kind() + [()]:
            self.stays(NoFact, self.folk.put, thing)
            for place in range(4):
                bad = put_at(good, (place,), thing)
                if type(thing) is not int or not is_book(LANDS, (bad,)):
                    self.stays(NoFact, self.folk.put, bad)
            for place in range(2):
                bad = put_at(good, (3, place), thing)
                if not is_book(LANDS, (bad,)):
                    self.stays(NoFact, self.folk.put, bad)

    def test_twice(self):
        facts = (at_once(5, 1, 1, 1), beside(6, 0, 7, 0))
        for fact in facts:
            self.folk.put(fact)
        for who, role, day, _ in facts:
            for at in (("in", 0), ("in", 1), ("in", 2), ("with", 8)):
                self.stays(Twice, self.folk.put, (who, role, day, at))
        for near in (at_once(5, 1, 1, 2), at_once(5, 0, 1, 1), at_once(6, 1, 1, 1)):
            self.assertIsNone(self.folk.put(near))
        self.assertEqual(len(self.folk.book()), 5)

    def test_the_sixtieth_and_the_sixty_first(self):
        for who in range(59):
            self.folk.put(at_once(who, 0, 0))
        self.assertIsNone(self.folk.put(at_once(59, 0, 0)))
        self.assertEqual(len(self.folk.book()), 60)
        self.stays(TooMany, self.folk.put, at_once(60, 0, 0))
        self.stays(TooMany, self.folk.put, at_once(0, 0, 0, 1))
        # What is refused first comes first.
        self.stays(Twice, self.folk.put, at_once(59, 0, 0))
        self.stays(Twice, self.folk.put, beside(0, 0, 99))
        self.stays(NoFact, self.folk.put, at_once(60, 0, 3))
        self.stays(NoFact, self.folk.put, at_once(0, 0, 3))
        self.stays(NoFact, self.folk.put, (True, 0, 0, ("in", 0)))
        self.folk.drop(30, 0, 0)
        self.assertIsNone(self.folk.put(at_once(60, 0, 0)))
        self.stays(TooMany, self.folk.put, at_once(30, 0, 0))

    def test_twice_behind_no_fact(self):
        self.folk.put(at_once(1, 1, 1, 1))
        for bad in ((1, 1, 1, ("in", 3)), (1, 1, 1, ("with", 1)), (True, 1, 1, ("in", 1)), (1, 1, 1, ("in", True))):
            self.stays(NoFact, self.folk.put, bad)

    def test_drop(self):
        facts = [at_once(5, 1, 1, 1), at_once(5, 1, 1, 2), at_once(5, 2, 1, 1), beside(6, 1, 5, 1)]
        for fact in facts:
            self.folk.put(fact)
        for many, (who, role, day, _) in enumerate(facts):
            self.assertIsNone(self.folk.drop(who, role, day))
            self.assertEqual(self.folk.book(), tuple(facts[many + 1:]))
            self.stays(NotTold, self.folk.drop, who, role, day)
        self.folk.put(facts[0])
        self.assertEqual(self.folk.book(), (facts[0],))

    def test_drop_of_what_is_not_there(self):
        self.stays(NotTold, self.folk.drop, 0, 0, 0)
        self.folk.put(at_once(1, 1, 1, 1))
        self.folk.put(at_once(0, 0, 0, 0))
        for bad in ((1, 1, 0), (1, 0, 1), (0, 1, 1), (0, 0, 1), (1, 1, 2), (100, 1, 1), (-1, 1, 1), (1, 4, 1)):
            self.stays(NotTold, self.folk.drop, *bad)
        for place, thing in itertools.product(range(3), (True, False, None, "1", "0", (1,), [1], [], {}, (), 10 ** 59)):
            for good in ((1, 1, 1), (0, 0, 0)):
                self.stays(NotTold, self.folk.drop, *put_at(good, (place,), thing))
        for thing in things_of_every_kind():
            if type(thing) is not int:
                for place in range(3):
                    self.stays(NotTold, self.folk.drop, *put_at((1, 1, 1), (place,), thing))
                self.stays(NotTold, self.folk.drop, thing, thing, thing)
        self.folk.drop(1, 1, 1)
        self.folk.drop(0, 0, 0)

    def test_what_was_told_ahead_stays(self):
        self.folk.put(at_once(1, 1, 1))
        first = self.folk.book()
        self.folk.put(at_once(0, 1, 1))
        second = self.folk.book()
        self.folk.drop(1, 1, 0)
        self.assertEqual(first, (at_once(1, 1, 1),))
        self.assertEqual(second, (at_once(0, 1, 1), at_once(1, 1, 1)))
        self.assertEqual(self.folk.book(), (at_once(0, 1, 1),))
        self.assertEqual(self.folk.book(), self.folk.book())

    def test_two_folks_of_a_realm_have_each_their_own(self):
        other = Folk(self.realm)
        self.folk.put(at_once(1, 1, 1))
        self.assertEqual(other.book(), ())
        other.put(at_once(1, 1, 2))
        self.assertEqual((self.folk.book(), other.book()), ((at_once(1, 1, 1),), (at_once(1, 1, 2),)))
        self.folk.drop(1, 1, 0)
        self.assertEqual((self.folk.book(), other.book()), ((), (at_once(1, 1, 2),)))

    def test_the_lands_that_a_fact_may_name_are_the_realms(self):
        for many in range(1, 6):
            folk = Folk(Realm((EMPTY,) * many))
            folk.put(at_once(1, 0, many - 1))
            self.refused(NoFact, folk.put, at_once(2, 0, many))


class Realms(Refusing):
    def setUp(self):
        self.realm = Realm(LANDS)

    def stays(self, error, deed, *args):
        before = self.realm.lands()
        self.refused(error, deed, *args)
        self.assertEqual(self.realm.lands(), before)

    def rules(self, number):
        lands = self.realm.lands()
        self.assertTrue(are_lands(lands) and is_plain(lands))
        self.assertEqual([each[1:] for each in lands], [each[1:] for each in LANDS])
        return lands[number][0]

    def test_a_new_one_has_its_lands(self):
        for lands in (LANDS, (EMPTY,), (EMPTY,) * 5):
            self.assertEqual(Realm(lands).lands(), lands)

    def test_rules_laid_in_any_order(self):
        rules = ((0, 0, 0, 0), (0, LAST_DAY, 2, 2), (1, 0, 1, 1), (3, 7, 0, 2))
        for order in itertools.permutations(rules):
            realm = Realm(LANDS)
            for many, rule in enumerate(order):
                self.assertIsNone(realm.put_rule(1, rule))
                self.assertEqual(realm.lands(), put_at(LANDS, (1, 0), tuple(sorted(order[:many + 1]))))

    def test_a_rule_in_another_ones_place(self):
        for role, way in itertools.product(range(3), range(3)):
            self.assertIsNone(self.realm.put_rule(0, (0, 5, role, way)))
            self.assertEqual(self.rules(0), ((0, 0, 0, 0), (0, 5, role, way)))
        self.realm.put_rule(0, (0, 5, 2, 2))
        self.realm.put_rule(0, (0, 0, 2, 1))
        self.assertEqual(self.rules(0), ((0, 0, 2, 1), (0, 5, 2, 2)))
        self.assertEqual(self.rules(2), LANDS[2][0])

    def test_no_rule(self):
        good = (1, 1, 1, 1)
        for number in (3, 5, -1, -3, 10 ** 59, True, False, None, "0", "", (0,), [0], [], {}, (), ((0,),)):
            self.stays(NoRule, self.realm.put_rule, number, good)
        for bad in (
            (4, 1, 1, 1), (-1, 1, 1, 1), (1, LAST_DAY + 1, 1, 1), (1, -1, 1, 1), (1, 1, 3, 1), (1, 1, -1, 1),
            (1, 1, 1, 3), (1, 1, 1, -1), (1, 1, 1), (1, 1, 1, 1, 1), (True, 1, 1, 1), (1, True, 1, 1), (1, 1, True, 1),
            (1, 1, 1, True), (1, 1, False, 1), (1, 1, 1, False), (1, 1, 1, "taken"), (1, 1, 1, None), [1, 1, 1, 1],
            (1, 1, (1,), 1), (good,), [good], None, (), "1 1 1 1", {1: 1},
        ):
            for number in range(3):
                self.stays(NoRule, self.realm.put_rule, number, bad)
            self.stays(NoRule, self.realm.put_rule, 3, bad)

    def test_things_of_every_kind_are_no_rules_and_no_lands(self):
        for thing in things_of_every_kind() + [()]:
            self.stays(NoRule, self.realm.put_rule, 0, thing)
            self.stays(NoRule, self.realm.put_rule, thing, thing)
            if type(thing) is not int:
                self.stays(NoRule, self.realm.put_rule, thing, (1, 1, 1, 1))
            for place in range(4):
                bad = put_at((1, 1, 1, 1), (place,), thing)
                if not is_rule(bad):
                    self.stays(NoRule, self.realm.put_rule, 0, bad)

    def test_the_twelfth_and_the_thirteenth(self):
        for since in range(11):
            self.realm.put_rule(1, (0, since, 0, 0))
        self.assertIsNone(self.realm.put_rule(1, (3, 0, 0, 0)))
        self.assertEqual(len(self.rules(1)), 12)
        for rule in ((0, 11, 0, 0), (3, 1, 0, 0), (2, 0, 0, 0), (3, LAST_DAY, 2, 2)):
            self.stays(TooMany, self.realm.put_rule, 1, rule)
        # What is refused first comes first; and in another one's place it is none more.
        self.stays(NoRule, self.realm.put_rule, 1, (3, 1, 0, 3))
        self.stays(NoRule, self.realm.put_rule, 1, (3, 1, True, 0))
        for rule in self.rules(1):
            self.assertIsNone(self.realm.put_rule(1, rule[:2] + (2, 2)))
        self.assertEqual({rule[2:] for rule in self.rules(1)}, {(2, 2)})
        # Another land has room.
        self.realm.put_rule(2, (0, 11, 0, 0))
        self.realm.drop_rule(1, 0, 4)
        self.assertIsNone(self.realm.put_rule(1, (3, 1, 0, 0)))
        self.stays(TooMany, self.realm.put_rule, 1, (0, 4, 0, 0))

    def test_drop_rule(self):
        self.assertIsNone(self.realm.drop_rule(0, 0, 0))
        self.assertEqual(self.rules(0), ((0, 5, 1, 1),))
        self.stays(NotTold, self.realm.drop_rule, 0, 0, 0)
        self.assertIsNone(self.realm.drop_rule(0, 0, 5))
        self.assertEqual(self.rules(0), ())
        self.assertEqual(self.rules(2), LANDS[2][0])
        self.realm.put_rule(0, (0, 0, 2, 2))
        self.assertEqual(self.rules(0), ((0, 0, 2, 2),))

    def test_drop_of_what_is_not_there(self):
        for bad in ((0, 0, 1), (0, 1, 0), (0, 0, 6), (1, 0, 0), (2, 0, 0), (2, 1, 0), (0, 4, 0), (0, -1, 0),
                    (0, 0, -1)):
            self.stays(NotTold, self.realm.drop_rule, *bad)
        for number in (3, 4, 5, -1, -3, 10 ** 59):
            self.stays(NotTold, self.realm.drop_rule, number, 0, 0)
            self.stays(NotTold, self.realm.drop_rule, number, 1, 1)
        self.realm.put_rule(1, (1, 1, 1, 1))
        for place, thing in itertools.product(range(3), (True, False, None, "1", "0", (1,), [1], [], {}, (), 10 ** 59)):
            for good in ((0, 0, 0), (1, 1, 1)):
                self.stays(NotTold, self.realm.drop_rule, *put_at(good, (place,), thing))
        for thing in things_of_every_kind():
            if type(thing) is not int:
                for place in range(3):
                    self.stays(NotTold, self.realm.drop_rule, *put_at((1, 1, 1), (place,), thing))
                self.stays(NotTold, self.realm.drop_rule, thing, thing, thing)

    def test_what_was_told_ahead_stays(self):
        first = self.realm.lands()
        self.realm.put_rule(0, (0, 0, 1, 1))
        second = self.realm.lands()
        self.realm.drop_rule(2, 1, 1)
        self.assertEqual(first, LANDS)
        self.assertEqual(second, put_at(LANDS, (0, 0, 0), (0, 0, 1, 1)))
        self.assertEqual(self.realm.lands(), put_at(second, (2, 0), ()))
        self.assertEqual(self.realm.lands(), self.realm.lands())

    def test_two_realms_of_the_same_lands_have_each_their_own(self):
        kept = copy.deepcopy(LANDS)
        other = Realm(LANDS)
        self.realm.put_rule(1, (0, 0, 0, 0))
        self.assertEqual(other.lands(), LANDS)
        other.drop_rule(0, 0, 0)
        self.assertEqual(self.rules(0), LANDS[0][0])
        self.assertEqual(Realm(LANDS).lands(), kept)
        self.assertEqual(LANDS, kept)

    def test_deeds_to_a_realm_leave_its_folks_books(self):
        folk = Folk(self.realm)
        folk.put(at_once(1, 1, 2))
        self.realm.put_rule(1, (0, 0, 0, 0))
        self.realm.drop_rule(2, 1, 1)
        self.assertEqual(folk.book(), (at_once(1, 1, 2),))
        folk.drop(1, 1, 0)
        self.assertEqual(self.rules(1), ((0, 0, 0, 0),))


class ManyDeeds(Refusing):
    """Against rows that are kept by hand."""

    def test_of_folks(self):
        dice = random.Random(331)
        for lands, _ in full_worlds(15, 333):
            folk = Folk(Realm(lands))
            kept = {}
            for _ in range(250):
                fact = (dice.randrange(5), dice.randrange(4), dice.randrange(4), ("in", dice.randrange(len(lands))))
                if dice.randrange(2):
                    if fact[:3] in kept:
                        self.refused(Twice, folk.put, fact)
                    elif len(kept) == 60:
                        self.refused(TooMany, folk.put, fact)
                    else:
                        self.assertIsNone(folk.put(fact))
                        kept[fact[:3]] = fact
                elif fact[:3] in kept:
                    self.assertIsNone(folk.drop(*fact[:3]))
                    del kept[fact[:3]]
                else:
                    self.refused(NotTold, folk.drop, *fact[:3])
                self.assertEqual(folk.book(), tuple(sorted(kept.values())))

    def test_of_realms(self):
        dice = random.Random(335)
        refusals = set()
        for lands, _ in full_worlds(15, 337):
            realm = Realm(lands)
            kept = [{rule[:2]: rule for rule in each[0]} for each in lands]
            for _ in range(250):
                number = dice.randrange(len(lands))
                rule = (dice.randrange(4), dice.randrange(5), dice.randrange(3), dice.randrange(3))
                if dice.randrange(3):
                    if len(kept[number]) == 12 and rule[:2] not in kept[number]:
                        refusals.add(TooMany)
                        self.refused(TooMany, realm.put_rule, number, rule)
                    else:
                        self.assertIsNone(realm.put_rule(number, rule))
                        kept[number][rule[:2]] = rule
                elif rule[:2] in kept[number]:
                    self.assertIsNone(realm.drop_rule(number, *rule[:2]))
                    del kept[number][rule[:2]]
                else:
                    refusals.add(NotTold)
                    self.refused(NotTold, realm.drop_rule, number, *rule[:2])
                due = tuple((tuple(sorted(rows.values())),) + each[1:] for rows, each in zip(kept, lands))
                self.assertEqual(realm.lands(), due)
                self.assertTrue(are_lands(due))
        self.assertEqual(refusals, {TooMany, NotTold})


if __name__ == "__main__":
    unittest.main()
