import copy
import itertools
import random
import unittest

from plain import plain_answer
from refusing import Refusing
from samples import EMPTY, ask, at_once, beside, is_plain, land, say, things_of_every_kind
from whoselaw.dockets import Docket
from whoselaw.errors import NotTold, Twice
from whoselaw.lands import are_lands
from whoselaw.realms import Folk, Realm
from worlds import asked, full_worlds, thrown_deed, thrown_worlds

ALONE, TAKEN, COURT = range(3)
LAST_DAY = 10 ** 9
WHO = 7
# Land 0 goes by role 0; lands 1 and 2 say the same of kind 0, land 0 another thing.
LANDS = (
    land([(0, 0, 0, COURT)], [(0, 0, say(1)), (1, 0, ask(0, say(5), say(6), 1))]),
    land([], [(0, 0, say(2))]),
    land([], [(0, 0, say(2))]),
)
QUESTION = (0, WHO, 5)


class Dockets(Refusing):
    def setUp(self):
        self.realm = Realm(LANDS)
        self.folk = Folk(self.realm)
        self.folk.put(at_once(WHO, 0, 1))
        self.docket = Docket(self.realm, self.folk)

    def stays(self, error, deed, *args):
        before = seen(self.docket)
        self.refused(error, deed, *args)
        self.assertEqual(seen(self.docket), before)

    def now(self, court=0, question=QUESTION):
        return plain_answer(self.realm.lands(), self.folk.book(), court, question)


def seen(docket):
    """All that a docket tells of what it keeps."""
    names = docket.names()
    return names, docket.turned_since(), [(docket.tree(name), docket.still(name)) for name in names]


class Asking(Dockets):
    def test_a_new_one_keeps_nothing(self):
        self.assertEqual((self.docket.names(), self.docket.turned_since()), ((), ()))

    def test_ask_tells_the_answer_and_keeps_the_tree(self):
        for name, court, question in (("a", 0, QUESTION), ("b", 1, QUESTION), ("zzzzzzzz", 0, (1, WHO, 5)),
                                      ("abcdefgh", 2, (3, 99, LAST_DAY)), ("q", 0, (0, 0, 0))):
            due = self.now(court, question)
            told = self.docket.ask(name, court, question)
            self.assertEqual(told, due[0])
            self.assertIs(type(told), int)
            self.assertEqual(self.docket.tree(name), due)
            self.assertTrue(is_plain(self.docket.tree(name)))
            self.assertIs(self.docket.still(name), True)
        self.assertEqual(self.docket.names(), ("a", "abcdefgh", "b", "q", "zzzzzzzz"))
        self.assertEqual(self.docket.turned_since(), ())

    def test_a_name_that_is_kept(self):
        self.docket.ask("a", 0, QUESTION)
        for court, question in ((0, QUESTION), (1, QUESTION), (0, (1, WHO, 5))):
            self.stays(Twice, self.docket.ask, "a", court, question)
        self.folk.drop(WHO, 0, 0)
        self.stays(Twice, self.docket.ask, "a", 0, QUESTION)
        self.assertEqual(self.docket.tree("a")[0], 2)
        self.docket.again("a")
        self.stays(Twice, self.docket.ask, "a", 1, QUESTION)
        self.docket.drop("a")
        self.assertEqual(self.docket.ask("a", 1, QUESTION), 2)

    def test_names_that_are_not_kept_whatever_they_are(self):
        for kept in ((), ("a", "b")):
            for name in kept:
                self.docket.ask(name, 0, QUESTION)
            for deed in (self.docket.again, self.docket.still, self.docket.tree, self.docket.drop):
                for name in ("c", "aa", "A", "a ", " a", "", "a\n", "ab", "*", "0", 0, 1, True, False, None, (), ("a",),
                             ["a"], [], {}, {"a": 1}, ("a", []), ([],), [[]]):
                    self.stays(NotTold, deed, name)
                for thing in things_of_every_kind():
                    self.stays(NotTold, deed, thing)

    def test_names_are_rising_in_whatever_order_they_came(self):
        names = ("b", "a", "ab", "zz", "z")
        for order in itertools.permutations(names):
            docket = Docket(self.realm, self.folk)
            for name in order:
                docket.ask(name, 0, QUESTION)
            self.assertEqual(docket.names(), ("a", "ab", "b", "z", "zz"))
            docket.drop("b")
            self.assertEqual(docket.names(), ("a", "ab", "z", "zz"))

    def test_drop(self):
        self.docket.ask("a", 0, QUESTION)
        self.docket.ask("b", 1, QUESTION)
        self.assertIsNone(self.docket.drop("a"))
        self.assertEqual(self.docket.names(), ("b",))
        for deed in (self.docket.again, self.docket.still, self.docket.tree, self.docket.drop):
            self.stays(NotTold, deed, "a")
        self.assertIsNone(self.docket.drop("b"))
        self.assertEqual(self.docket.names(), ())

    def test_what_was_told_ahead_stays(self):
        self.docket.ask("a", 0, QUESTION)
        names, tree = self.docket.names(), self.docket.tree("a")
        kept = copy.deepcopy((names, tree))
        self.docket.ask("b", 0, QUESTION)
        self.folk.drop(WHO, 0, 0)
        self.docket.again("a")
        self.docket.drop("b")
        self.assertEqual((names, tree), kept)
        self.assertNotEqual(self.docket.tree("a"), tree)


class Deeds(Dockets):
    def setUp(self):
        super().setUp()
        self.docket.ask("a", 0, QUESTION)
        self.first = self.docket.tree("a")

    def is_turned(self, turned):
        """Whether it is told to hold still, and that nothing is kept anew by being asked for."""
        self.assertIs(self.docket.still("a"), not turned)
        self.assertEqual(self.docket.turned_since(), ("a",) if turned else ())
        self.assertEqual(self.docket.tree("a"), self.first)

    def test_deeds_that_turn_the_answer(self):
        self.folk.put(at_once(WHO, 0, 0, 1))
        self.is_turned(True)
        self.assertEqual(self.docket.again("a"), 1)
        self.assertEqual(self.docket.tree("a"), self.now())
        self.assertIs(self.docket.still("a"), True)
        self.assertEqual(self.docket.turned_since(), ())

    def test_a_rule_that_turns_the_answer(self):
        self.realm.put_rule(0, (0, 5, 1, ALONE))
        self.is_turned(True)
        self.assertEqual(self.docket.again("a"), 1)
        self.realm.drop_rule(0, 0, 5)
        self.assertIs(self.docket.still("a"), False)
        self.assertEqual(self.docket.again("a"), 2)
        self.assertEqual(self.docket.tree("a"), self.first)

    def test_deeds_that_leave_the_answer_and_turn_the_tree(self):
        self.folk.put(at_once(WHO, 0, 2, 1))
        self.is_turned(True)
        self.assertEqual(self.docket.again("a"), 2)
        self.assertEqual(self.docket.tree("a"), self.now())
        self.assertNotEqual(self.docket.tree("a"), self.first)
        # In another way to the same land: the answer is as it was, the chain is not.
        self.realm.put_rule(0, (0, 0, 0, ALONE))
        self.assertIs(self.docket.still("a"), False)
        self.assertEqual(self.docket.again("a"), 2)
        self.assertIs(self.docket.still("a"), True)

    def test_deeds_that_turn_it_and_turn_it_back(self):
        self.folk.drop(WHO, 0, 0)
        self.is_turned(True)
        self.folk.put(at_once(WHO, 0, 1))
        self.is_turned(False)
        self.realm.put_rule(0, (0, 0, 1, COURT))
        self.is_turned(True)
        self.realm.drop_rule(0, 0, 0)
        self.is_turned(True)
        self.realm.put_rule(0, (0, 0, 0, COURT))
        self.is_turned(False)
        self.assertEqual(self.docket.again("a"), 2)

    def test_deeds_that_leave_the_tree(self):
        self.folk.put(at_once(WHO, 1, 2))
        self.folk.put(at_once(WHO, 0, 0, 6))
        self.folk.put(at_once(6, 0, 0))
        self.realm.put_rule(0, (1, 0, 0, ALONE))
        self.realm.put_rule(0, (0, 6, 2, ALONE))
        self.realm.put_rule(2, (0, 0, 0, ALONE))
        self.is_turned(False)
        self.realm.put_rule(1, (0, 0, 0, ALONE))
        self.is_turned(True)

    def test_several_names(self):
        self.docket.ask("z", 1, QUESTION)
        self.docket.ask("b", 0, (0, 6, 5))
        self.docket.ask("ab", 0, (1, WHO, 5))
        self.folk.put(at_once(WHO, 0, 2, 3))
        self.assertEqual(self.docket.turned_since(), ("a",))
        self.folk.put(beside(WHO, 1, 8))
        self.assertEqual(self.docket.turned_since(), ("a", "ab"))
        self.folk.put(beside(6, 0, 8, 5))
        self.assertEqual(self.docket.turned_since(), ("a", "ab", "b"))
        self.realm.put_rule(1, (0, 1, 0, 0))
        self.assertEqual(self.docket.turned_since(), ("a", "ab", "b", "z"))
        self.docket.again("b")
        self.assertEqual(self.docket.turned_since(), ("a", "ab", "z"))
        self.docket.drop("ab")
        self.assertEqual(self.docket.turned_since(), ("a", "z"))
        self.assertEqual(self.docket.names(), ("a", "b", "z"))


class Sharing(Dockets):
    def test_what_one_keeps_no_other_one_sees(self):
        other = Docket(self.realm, self.folk)
        self.docket.ask("a", 0, QUESTION)
        self.assertEqual(other.names(), ())
        self.refused(NotTold, other.tree, "a")
        other.ask("a", 1, QUESTION)
        self.assertNotEqual(self.docket.tree("a"), other.tree("a"))
        self.folk.drop(WHO, 0, 0)
        self.assertEqual((self.docket.turned_since(), other.turned_since()), (("a",), ()))
        self.docket.again("a")
        self.docket.drop("a")
        self.assertEqual((self.docket.names(), other.names()), ((), ("a",)))

    def test_dockets_that_share_a_realm_a_folk_or_both(self):
        far_folk = Folk(self.realm)
        far_realm = Realm(LANDS)
        both, by_realm, by_folk = (
            Docket(self.realm, self.folk), Docket(self.realm, far_folk), Docket(far_realm, self.folk),
        )
        dockets = (self.docket, both, by_realm, by_folk)
        told = [docket.ask("a", 0, QUESTION) for docket in dockets]
        self.assertEqual(told, [2, 2, 1, 2])
        self.folk.put(at_once(WHO, 0, 2, 2))
        self.assertEqual([docket.still("a") for docket in dockets], [False, False, True, False])
        far_folk.put(at_once(WHO, 0, 2, 2))
        self.assertEqual([docket.still("a") for docket in dockets], [False, False, False, False])
        self.assertEqual([docket.again("a") for docket in dockets], [2, 2, 2, 2])
        self.realm.put_rule(0, (0, 0, 1, TAKEN))
        self.assertEqual([docket.still("a") for docket in dockets], [False, False, False, True])
        far_realm.drop_rule(0, 0, 0)
        self.assertEqual([docket.still("a") for docket in dockets], [False] * 4)
        self.assertEqual([docket.again("a") for docket in dockets], [1, 1, 1, 1])

    def test_a_folk_of_another_realm_with_as_many_lands(self):
        other = Realm((EMPTY,) * 3)
        folk = Folk(other)
        folk.put(at_once(WHO, 0, 2))
        docket = Docket(self.realm, folk)
        self.assertEqual(docket.ask("a", 0, QUESTION), 2)
        self.assertEqual(docket.tree("a"), plain_answer(LANDS, folk.book(), 0, QUESTION))
        # Deeds to the folk's own realm are nothing to it.
        other.put_rule(0, (0, 0, 1, 1))
        self.assertIs(docket.still("a"), True)
        self.realm.drop_rule(0, 0, 0)
        self.assertIs(docket.still("a"), False)
        self.assertEqual(docket.again("a"), 1)


class ManyDeeds(Dockets):
    """Against a row that is kept by hand: still just where asking anew would tell what is kept."""

    def test_deeds_of_every_sort(self):
        dice = random.Random(341)
        told = []
        for lands, book in thrown_worlds(12, 343):
            self.realm = Realm(lands)
            self.folk = Folk(self.realm)
            for fact in book[:40]:
                self.folk.put(fact)
            docket = Docket(self.realm, self.folk)
            kept = {}
            for _ in range(120):
                thrown_deed(dice, self.realm, self.folk)
                name = dice.choice("abcdef")
                court, question = dice.choice(asked(lands))
                if dice.randrange(3) and name not in kept:
                    kept[name] = (court, question, self.now(court, question))
                    self.assertEqual(docket.ask(name, court, question), kept[name][2][0])
                elif name not in kept:
                    self.refused(NotTold, docket.again, name)
                elif dice.randrange(3) == 0:
                    court, question, _ = kept[name]
                    kept[name] = (court, question, self.now(court, question))
                    self.assertEqual(docket.again(name), kept[name][2][0])
                elif dice.randrange(4) == 0:
                    docket.drop(name)
                    del kept[name]
                else:
                    self.refused(Twice, docket.ask, name, court, question)
                self.assertEqual(docket.names(), tuple(sorted(kept)))
                turned = []
                for each, (court, question, tree) in sorted(kept.items()):
                    self.assertEqual(docket.tree(each), tree)
                    holds = self.now(court, question) == tree
                    told.append(holds)
                    self.assertIs(docket.still(each), holds)
                    turned += [] if holds else [each]
                self.assertEqual(docket.turned_since(), tuple(turned))
        self.assertGreater(min(told.count(True), told.count(False)), 200)


class Bounds(Dockets):
    def test_full_lands_and_books(self):
        for lands, book in full_worlds(6, 345):
            realm = Realm(lands)
            folk = Folk(realm)
            for fact in book:
                folk.put(fact)
            docket = Docket(realm, folk)
            self.assertTrue(are_lands(lands))
            names = ["".join(pair) for pair in itertools.product("abcdefgh", repeat=2)]
            for name, (court, question) in zip(names, asked(lands)):
                due = plain_answer(lands, book, court, question)
                self.assertEqual(docket.ask(name, court, question), due[0])
                self.assertEqual(docket.tree(name), due)
            self.assertEqual(docket.turned_since(), ())
            self.assertEqual(docket.names(), tuple(names))

    def test_the_first_and_the_last_day_and_ones(self):
        for day, who in itertools.product((0, LAST_DAY), (0, 99)):
            folk = Folk(self.realm)
            docket = Docket(self.realm, folk)
            self.assertEqual(docket.ask("a", 0, (0, who, day)), 1)
            folk.put((who, 0, day, ("in", 1)))
            self.assertEqual(docket.turned_since(), ("a",))
            self.assertEqual(docket.again("a"), 2)


if __name__ == "__main__":
    unittest.main()
