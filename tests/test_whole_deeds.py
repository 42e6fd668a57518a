"""Point 3 of the document, (i): what is promised of folks, realms and dockets, whatever was done to them."""

import itertools
import random
import unittest

from samples import at_once, beside, land, put_at, say
from whoselaw.chainpaper import chain_holds
from whoselaw.chains import chain_of
from whoselaw.dockets import Docket
from whoselaw.errors import LawError, NoFact, NoRule, NotTold, TooMany, Twice
from whoselaw.facts import is_book
from whoselaw.lands import are_lands
from whoselaw.realms import Folk, Realm
from whoselaw.texts import book_text, read_book
from whoselaw.treepaper import tree_holds
from whoselaw.trees import answer_of
from worlds import asked, full_worlds, thrown_deed, thrown_worlds


def new_realm(lands, dice):
    """A realm of lands without rules, that was told these lands' rules in any order."""
    realm = Realm(tuple(((),) + each[1:] for each in lands))
    rules = [(number, rule) for number, each in enumerate(lands) for rule in each[0]]
    for number, rule in dice.sample(rules, len(rules)):
        realm.put_rule(number, rule)
    return realm


def new_folk(realm, book, dice):
    """A folk that was told the book's facts in any order."""
    folk = Folk(realm)
    for fact in dice.sample(book, len(book)):
        folk.put(fact)
    return folk


def told_by(deed, *args):
    """What it tells, or which refusal it meets."""
    try:
        return deed(*args)
    except LawError as refusal:
        return type(refusal)


class AsNewOnes(unittest.TestCase):
    def deeds(self, dice, many):
        """Any deed to a folk or to a realm, also such as are refused."""
        numbers = [dice.randrange(5) for _ in range(5)]
        at = dice.choice((("in", numbers[3]), ("with", numbers[3]), ("in", many), ("with", True)))
        rule = (numbers[0], numbers[1], dice.randrange(4), dice.randrange(4))
        if dice.randrange(2):
            return dice.choice((("put", (tuple(numbers[:3]) + (at,),)), ("drop", tuple(numbers[:3]))))
        return dice.choice((("put_rule", (numbers[2], rule)), ("drop_rule", (numbers[2],) + rule[:2])))

    def test_they_answer_as_new_ones_that_were_told_what_is_left(self):
        dice = random.Random(381)
        refusals = set()
        for lands, book in full_worlds(20, 383):
            realm = Realm(lands)
            folk = new_folk(realm, book, dice)
            for _ in range(80):
                for _ in range(5):
                    thrown_deed(dice, realm, folk)
                fresh = new_realm(realm.lands(), dice)
                other = new_folk(fresh, folk.book(), dice)
                self.assertEqual((fresh.lands(), other.book()), (realm.lands(), folk.book()))
                self.assertTrue(are_lands(realm.lands()) and is_book(lands, folk.book()))
                # Each deed is met alike by both.
                word, args = self.deeds(dice, len(lands))
                old, new = (folk, other) if word in ("put", "drop") else (realm, fresh)
                told = told_by(getattr(old, word), *args)
                refusals.add(told)
                self.assertEqual(told, told_by(getattr(new, word), *args))
                self.assertEqual((fresh.lands(), other.book()), (realm.lands(), folk.book()))
        self.assertEqual(refusals, {None, NoFact, NoRule, NotTold, Twice, TooMany})

    def test_what_is_told_and_taken_back_leaves_nothing(self):
        lands = (land([(0, 0, 0, 2)], [(0, 0, say(1))]), land([], [(0, 0, say(2))]))
        facts = (at_once(1, 0, 1), at_once(1, 0, 0, 3), beside(2, 0, 1))
        rules = ((0, (0, 0, 1, 1)), (1, (0, 0, 0, 0)), (1, (3, 5, 2, 2)))
        for order in itertools.permutations(range(6)):
            realm = Realm(lands)
            folk = Folk(realm)
            for place in order:
                if place < 3:
                    folk.put(facts[place])
                else:
                    realm.put_rule(*rules[place - 3])
            self.assertEqual(folk.book(), facts)
            for place in order[::-1][:3] + order[:3]:
                if place < 3:
                    folk.drop(*facts[place][:3])
                else:
                    realm.drop_rule(rules[place - 3][0], *rules[place - 3][1][:2])
            self.assertEqual(folk.book(), ())
            self.assertEqual(realm.lands(), put_at(lands, (0, 0), ()))
            realm.put_rule(0, (0, 0, 0, 2))
            self.assertEqual(realm.lands(), lands)

    def test_the_answers_of_now_are_those_of_new_ones(self):
        dice = random.Random(385)
        for lands, book in thrown_worlds(15, 387):
            realm = Realm(lands)
            folk = new_folk(realm, book, dice)
            docket = Docket(realm, folk)
            docket.ask("a", 0, (3, 0, 2))
            for _ in range(40):
                thrown_deed(dice, realm, folk)
            fresh = new_realm(realm.lands(), dice)
            anew = Docket(fresh, new_folk(fresh, folk.book(), dice))
            self.assertEqual(docket.again("a"), anew.ask("a", 0, (3, 0, 2)))
            self.assertEqual(docket.tree("a"), anew.tree("a"))

    def test_their_books_have_texts(self):
        dice = random.Random(389)
        for lands, book in full_worlds(20, 391):
            realm = Realm(lands)
            folk = new_folk(realm, book, dice)
            for _ in range(30):
                thrown_deed(dice, realm, folk)
            self.assertEqual(read_book(realm.lands(), book_text(folk.book())), folk.book())


class Still(unittest.TestCase):
    """A docket says still just where asking anew would tell what it keeps."""

    def test_behind_each_deed(self):
        dice = random.Random(393)
        found = []
        for lands, book in thrown_worlds(20, 395):
            realm = Realm(lands)
            folk = new_folk(realm, book, dice)
            docket = Docket(realm, folk)
            calls = {}
            for name in "abcdefghijklmnop":
                calls[name] = dice.choice(asked(lands))
                docket.ask(name, *calls[name])
            for _ in range(40):
                thrown_deed(dice, realm, folk)
                fresh = Docket(realm, folk)
                turned = []
                for name, call in calls.items():
                    fresh.ask(name, *call)
                    holds = fresh.tree(name) == docket.tree(name)
                    self.assertIs(docket.still(name), holds)
                    if not holds:
                        turned.append(name)
                        found.append(fresh.tree(name)[0] == docket.tree(name)[0])
                self.assertEqual(docket.turned_since(), tuple(turned))
                self.assertEqual(fresh.turned_since(), ())
                docket.again(dice.choice("abcdefghijklmnop"))
        # Trees that were turned while the answer was not, and such as had another one.
        self.assertGreater(min(found.count(True), found.count(False)), 50)

    def test_just_one_chain_and_one_tree_of_now_hold(self):
        dice = random.Random(397)
        for lands, book in thrown_worlds(8, 399):
            realm = Realm(lands)
            folk = new_folk(realm, book, dice)
            court, question = dice.choice(asked(lands))
            told = []
            for _ in range(30):
                thrown_deed(dice, realm, folk)
                call = (realm.lands(), folk.book(), court, question)
                told.append(answer_of(*call))
                self.assertEqual(told[-1][1][0], chain_of(*call))
                held = {(answer, tree) for answer, tree in told if tree_holds(*call, answer, tree)}
                self.assertEqual(held, {told[-1]})
                self.assertEqual({tree[0] for _, tree in told if chain_holds(*call, tree[0])}, {told[-1][1][0]})


if __name__ == "__main__":
    unittest.main()
