"""Point 3 of the document, (a), (b) and (c): what is promised of all chains and trees."""

import itertools
import random
import unittest

from samples import ask, at_once, land, put_at, say
from whoselaw.chainpaper import chain_holds
from whoselaw.chains import chain_of, decided
from whoselaw.facts import is_book
from whoselaw.lands import are_lands
from whoselaw.naming import named
from whoselaw.treepaper import tree_holds
from whoselaw.trees import answer_of
from worlds import LAST_WORLD_DAY, ONES, asked, thrown_worlds

COURT = 2
LAST_DAY = 10 ** 9
MOST_FACTS = 60


class JustOne(unittest.TestCase):
    def test_of_the_chains_and_trees_of_several_worlds(self):
        dice = random.Random(51)
        calls = [(world, call) for world in thrown_worlds(12, 52) for call in asked(world[0])]
        calls = dice.sample(calls, 250)
        told = [answer_of(*world, *call) for world, call in calls]
        trees = sorted({tree for _, tree in told}, key=repr)
        chains = sorted({chain for chain, _ in trees}, key=repr)
        for (world, call), (answer, tree) in zip(calls, told):
            self.assertEqual([each for each in chains if chain_holds(*world, *call, each)], [tree[0]])
            held = [(number, each) for each in trees for number in {answer, 0, 1}
                    if tree_holds(*world, *call, number, each)]
            self.assertEqual(held, [(answer, tree)])

    def test_a_chain_holds_just_where_its_tree_does(self):
        for lands, book in thrown_worlds(10, 53):
            for court, question in asked(lands):
                answer, tree = answer_of(lands, book, court, question)
                self.assertEqual(tree[0], chain_of(lands, book, court, question))
                self.assertIs(chain_holds(lands, book, court, question, tree[0]), True)
                self.assertIs(tree_holds(lands, book, court, question, answer, tree), True)


class AlikeCourts(unittest.TestCase):
    def test_a_court_that_asks_in_the_way_court(self):
        many = 0
        for lands, book in thrown_worlds(100, 54):
            for court, question in asked(lands):
                first = chain_of(lands, book, court, question)[0]
                if first[0] == "court":
                    many += 1
                    other = first[2][1]
                    answer, tree = answer_of(lands, book, court, question)
                    far, far_tree = answer_of(lands, book, other, question)
                    self.assertEqual(answer, far)
                    self.assertEqual(tree[1], far_tree[1])
                    told = decided(lands, book, court, question)
                    self.assertEqual(told, decided(lands, book, other, question))
        self.assertGreater(many, 500)

    def test_all_lands_of_a_round(self):
        sizes = set()
        for lands, book in thrown_worlds(150, 57):
            for court, question in asked(lands):
                chain = chain_of(lands, book, court, question)
                if chain[-1][0] == "court":
                    ring = [step[1] for step in chain]
                    sizes.add(len(ring) - ring.index(chain[-1][2][1]))
                    told = {answer_of(lands, book, each, question)[0] for each in ring}
                    self.assertEqual(len(told), 1)
                    told = {decided(lands, book, each, question) for each in ring}
                    self.assertEqual(len(told), 1)
        self.assertEqual(sizes, {2, 3})

    def test_a_round_whose_lands_have_unlike_customs(self):
        question = (1, 7, 10)
        book = (at_once(7, 0, 1), at_once(7, 1, 2), at_once(7, 2, 0))
        for sinces in itertools.permutations((1, 2, 3)):
            ring = [
                land([(1, since, role, COURT)], [(0, 0, say(role)), (1, 0, ask(0, say(3 + role), say(6 + role)))])
                for role, since in enumerate(sinces)
            ]
            leading = [land([(1, 0, role, COURT)], [(1, 0, say(9))]) for role in (1, 2)]
            lands = tuple(ring + leading)
            self.assertTrue(are_lands(lands) and is_book(lands, book))
            eldest = sinces.index(1)
            answer = 3 + eldest if eldest else 6
            for court in range(5):
                self.assertEqual(answer_of(lands, book, court, question)[0], answer)


class Unnamed(unittest.TestCase):
    """What a tree that holds doesn't hang on."""

    def goes_on(self, lands, book, call, told):
        self.assertTrue(are_lands(lands))
        self.assertTrue(is_book(lands, book))
        court, question = call
        self.assertIs(tree_holds(lands, book, court, question, *told), True)
        self.assertEqual(answer_of(lands, book, court, question), told)
        self.assertIs(chain_holds(lands, book, court, question, told[1][0]), True)

    def cases(self, many, seed, kept):
        """Worlds, some calls of each of them, what is told and what is named."""
        dice = random.Random(seed)
        for lands, book in thrown_worlds(many, seed):
            for call in dice.sample(asked(lands), kept):
                told = answer_of(lands, book, *call)
                yield lands, book, call, told, named(lands, call[1], call[0], told[1])

    def test_a_rule_that_it_does_not_name(self):
        many = 0
        for lands, book, call, told, (rules, _, _) in self.cases(20, 61, 4):
            for number, place in unnamed_rules(lands, rules):
                for role, way in itertools.product(range(3), range(3)):
                    many += 1
                    kind, since, _, _ = lands[number][0][place]
                    self.goes_on(put_at(lands, (number, 0, place), (kind, since, role, way)), book, call, told)
        self.assertGreater(many, 3000)

    def test_all_rules_that_it_does_not_name_at_once(self):
        dice = random.Random(62)
        for lands, book, call, told, (rules, _, _) in self.cases(60, 63, 10):
            for number, place in unnamed_rules(lands, rules):
                kind, since, _, _ = lands[number][0][place]
                turned = (kind, since, dice.randrange(3), dice.randrange(3))
                lands = put_at(lands, (number, 0, place), turned)
            self.goes_on(lands, book, call, told)

    def test_a_fact_that_it_does_not_name(self):
        many = at_pairs_looked_at = 0
        for lands, book, call, told, (_, facts, pairs) in self.cases(25, 64, 4):
            for place, fact in enumerate(book):
                if fact not in facts:
                    many += 1
                    at_pairs_looked_at += fact[:2] in pairs
                    self.goes_on(lands, book[:place] + book[place + 1:], call, told)
                    for at in places(lands, fact[0]):
                        self.goes_on(lands, put_at(book, (place, 3), at), call, told)
        self.assertGreater(many, 1000)
        self.assertGreater(at_pairs_looked_at, 50)

    def test_all_facts_but_those_that_it_names(self):
        for lands, book, call, told, (_, facts, _) in self.cases(60, 65, 10):
            self.goes_on(lands, facts, call, told)

    def test_facts_of_pairs_that_it_does_not_look_at(self):
        dice = random.Random(66)
        for lands, book, call, told, (_, _, pairs) in self.cases(60, 67, 10):
            free = [pair for pair in itertools.product(range(ONES + 2), range(4)) if pair not in pairs]
            for who, role in dice.sample(free, 5):
                day = dice.choice((0, call[1][2], LAST_WORLD_DAY, LAST_DAY))
                more = added(book, (who, role, day, dice.choice(places(lands, who))))
                self.goes_on(lands, more, call, told)
            more = book
            for who, role in dice.sample(free, len(free)):
                more = added(more, (who, role, dice.randrange(3), dice.choice(places(lands, who))))
            self.goes_on(lands, more, call, told)

    def test_facts_of_later_days(self):
        dice = random.Random(68)
        for lands, book, call, told, (_, _, pairs) in self.cases(60, 69, 10):
            more = book
            for who, role in dice.sample(pairs, len(pairs)):
                for day in (call[1][2] + 1, LAST_DAY):
                    fact = (who, role, day, dice.choice(places(lands, who)))
                    self.goes_on(lands, added(book, fact), call, told)
                    more = added(more, fact)
            self.goes_on(lands, more, call, told)

    def test_what_it_names_does_matter(self):
        """Without a fact that is named the tree holds no longer; nor without the rules of that land and kind."""
        for lands, book, call, told, (rules, facts, pairs) in self.cases(60, 70, 10):
            court, question = call
            for fact in facts:
                without = tuple(each for each in book if each != fact)
                self.assertIs(tree_holds(lands, without, court, question, *told), False)
            if len(book) < MOST_FACTS:
                for who, role in pairs:
                    fact = (who, role, question[2], ("with", 99))
                    if not [each for each in book if each[:3] == fact[:3]]:
                        self.assertIs(tree_holds(lands, added(book, fact), court, question, *told), False)
            for number, kind, since in rules:
                # An elder rule might go the same way.
                kept = tuple(rule for rule in lands[number][0] if rule[0] != kind)
                without = put_at(lands, (number, 0), kept)
                self.assertIs(tree_holds(without, book, court, question, *told), False)


def unnamed_rules(lands, rules):
    """Land and place of each rule that isn't among the named ones."""
    return [
        (number, place) for number, each in enumerate(lands) for place, rule in enumerate(each[0])
        if (number, rule[0], rule[1]) not in rules
    ]


def places(lands, who):
    """Where a role of this one may be."""
    ones = [one for one in (0, 1, 2, 98) if one != who]
    return [("in", number) for number in range(len(lands))] + [("with", one) for one in ones]


def added(book, fact):
    """The book with this fact too, if there is room for it and none of its who, role and day."""
    if len(book) == MOST_FACTS or fact[:3] in [each[:3] for each in book]:
        return book
    return tuple(sorted(book + (fact,)))


if __name__ == "__main__":
    unittest.main()
