import unittest

from plain import Notes, plain_answer
from samples import EMPTY, NO, YES, ask, at_once, is_plain, land
from whoselaw.facts import is_book
from whoselaw.lands import are_lands
from whoselaw.naming import named
from whoselaw.trees import answer_of
from worlds import asked, shuffled, thrown_calls, thrown_worlds

ALONE, TAKEN, COURT = range(3)
LAST_DAY = 10 ** 9
WHO, DAY = 7, 10
NOTHING = ((), (), ())
OTHERS = ((WHO, 3, 0, ("with", 2)), (WHO, 3, 11, ("with", 3)))


class Checked(unittest.TestCase):
    def names(self, lands, book, court, question, rules, facts, pairs):
        """What the tree names, given in any order, and told rising."""
        self.assertTrue(are_lands(lands))
        self.assertTrue(is_book(lands, book))
        _, tree = answer_of(lands, book, court, question)
        wanted = (tuple(sorted(rules)), tuple(sorted(facts)), tuple(sorted(pairs)))
        for _ in range(2):
            told = named(lands, question, court, tree)
            self.assertEqual(told, wanted)
            self.assertTrue(is_plain(told))
        notes = Notes()
        plain_answer(lands, book, court, question, notes)
        self.assertEqual(notes.told(), wanted)


def pairs_of(facts):
    return [(fact[0], fact[1]) for fact in facts]


class OfChains(Checked):
    question = (1, WHO, DAY)

    def test_a_step_none(self):
        for rules in ([], [(1, 11, 0, COURT)], [(0, 0, 0, COURT), (2, 0, 0, COURT)]):
            self.names((land(rules), EMPTY), (at_once(WHO, 0, 1),) + OTHERS, 0, self.question, *NOTHING)

    def test_an_open_trail(self):
        lands = (land([(1, 2, 1, COURT), (1, 5, 2, ALONE), (1, 11, 0, COURT)]),)
        self.names(lands, OTHERS, 0, self.question, [(0, 1, 5)], [], [(WHO, 2)])
        facts = [(WHO, 2, 10, ("with", 4)), (4, 2, 0, ("with", 1))]
        self.names(lands, tuple(sorted(facts)), 0, self.question, [(0, 1, 5)], facts, [(WHO, 2), (4, 2), (1, 2)])
        self.names(lands, tuple(sorted(facts)), 0, (1, WHO, 4), [(0, 1, 2)], [], [(WHO, 1)])

    def test_a_trail_that_goes_round(self):
        facts = [(WHO, 0, 10, ("with", 4)), (4, 0, 0, ("with", 1)), (1, 0, 3, ("with", 4))]
        lands = (EMPTY, land([(1, 0, 0, TAKEN)]))
        self.names(lands, tuple(sorted(facts)), 1, self.question, [(1, 1, 0)], facts, pairs_of(facts))

    def test_a_trail_to_a_land(self):
        facts = [(WHO, 0, 10, ("with", 4)), (4, 0, 0, ("in", 1))]
        book = tuple(sorted(facts + [(4, 0, 11, ("in", 0)), (WHO, 0, 9, ("in", 0)), (1, 0, 0, ("in", 1))]))
        for way in (ALONE, COURT):
            lands = (land([(1, 3, 0, way)]), EMPTY)
            self.names(lands, book, 0, self.question, [(0, 1, 3)], facts, pairs_of(facts))
        for way in range(3):
            lands = (EMPTY, land([(1, 3, 0, way)]))
            self.names(lands, book, 1, self.question, [(1, 1, 3)], facts, pairs_of(facts))

    def test_taken_with_each_next(self):
        first = at_once(WHO, 0, 1)
        beside = (at_once(8, 0, 1), at_once(8, 1, 1))
        for rules, more, looked in (
            ([(1, 11, 1, ALONE), (0, 0, 1, ALONE)], [], []),
            ([(1, 4, 1, ALONE)], [], [(WHO, 1)]),
            ([(1, 4, 1, ALONE)], [(WHO, 1, 1, ("with", 3))], [(WHO, 1), (3, 1)]),
            ([(1, 4, 1, ALONE)], [(WHO, 1, 1, ("with", 3)), (3, 1, 1, ("with", WHO))], [(WHO, 1), (3, 1)]),
            ([(1, 4, 1, ALONE)], [at_once(WHO, 1, 1)], [(WHO, 1)]),
            ([(1, 4, 1, COURT)], [at_once(WHO, 1, 2)], [(WHO, 1)]),
            ([(1, 4, 1, TAKEN)], [at_once(WHO, 1, 0)], [(WHO, 1)]),
            ([(1, 4, 0, TAKEN)], [], []),
        ):
            lands = (land([(1, 0, 0, TAKEN)]), land(sorted(rules)), land([(1, 0, 2, ALONE)]))
            book = tuple(sorted([first, *more, *beside]))
            named_rules = [(0, 1, 0)] + [(1, 1, 4)] * (len(rules) == 1)
            pairs = [(WHO, 0)] + looked
            self.names(lands, book, 0, self.question, named_rules, [first] + more, pairs)

    def test_a_round_of_lands(self):
        facts = [at_once(WHO, 0, 1), at_once(WHO, 1, 2), at_once(WHO, 2, 1)]
        lands = (land([(1, 9, 0, COURT)]), land([(1, 8, 1, COURT)]), land([(1, 7, 2, COURT)]))
        rules = [(0, 1, 9), (1, 1, 8), (2, 1, 7)]
        self.names(lands, tuple(facts), 0, self.question, rules, facts, pairs_of(facts))
        self.names(lands, tuple(facts), 1, self.question, rules[1:], facts[1:], pairs_of(facts[1:]))
        self.names(lands, tuple(facts), 2, self.question, rules[1:], facts[1:], pairs_of(facts[1:]))

    def test_a_trail_that_two_steps_share_is_told_once(self):
        fact = at_once(WHO, 0, 1)
        lands = (land([(1, 9, 0, COURT)]), land([(1, 8, 0, COURT)]))
        self.names(lands, (fact,), 0, self.question, [(0, 1, 9), (1, 1, 8)], [fact], [(WHO, 0)])


class OfEntries(Checked):
    question = (2, WHO, DAY)

    def ruled(self, saying, *more):
        return (land([(0, 5, 0, COURT)], [(2, 0, saying), *more]), EMPTY)

    def test_a_same(self):
        self.names(self.ruled(ask(1)), (at_once(WHO, 0, 1),), 0, self.question, *NOTHING)
        self.names(self.ruled(ask(0)), OTHERS, 0, self.question, [(0, 0, 5)], [], [(WHO, 0)])
        fact = at_once(WHO, 0, 1)
        self.names(self.ruled(ask(0)), (fact,) + OTHERS, 0, self.question, [(0, 0, 5)], [fact], [(WHO, 0)])

    def test_a_with(self):
        for role in range(4):
            fact = (WHO, role, 10, ("with", 3))
            book = tuple(sorted([fact, (WHO, role, 9, ("in", 1)), (WHO, role, 11, ("in", 1))]))
            self.names(self.ruled(ask(1, whose=role)), book, 0, self.question, [], [fact], [(WHO, role)])
            inner = [(0, 0, 5)], [fact], [(WHO, role), (3, 0)]
            self.names(self.ruled(ask(0, whose=role)), book, 0, self.question, *inner)

    def test_a_nobody(self):
        for role in range(4):
            self.names(self.ruled(ask(0, whose=role)), (), 0, self.question, [], [], [(WHO, role)])
            fact = at_once(WHO, role, 1, 10)
            book = (at_once(WHO, role, 0, 9), fact, at_once(WHO, role, 0, 11))
            self.names(self.ruled(ask(0, whose=role)), book, 0, self.question, [], [fact], [(WHO, role)])

    def test_the_asks_that_were_come_to_and_no_others(self):
        saying = ask(0, ask(1, YES, ask(1, whose=3), 2), ask(1, YES, ask(1, whose=1), 1))
        for answer, pairs in ((YES, [(WHO, 2), (WHO, 3)]), (NO, [(WHO, 1)])):
            lands = (land([], [(0, 0, answer), (2, 0, saying)]),)
            self.names(lands, (), 0, self.question, [], [], pairs)
            fact = (WHO, 1, 0, ("with", 8))
            facts = [fact] if answer == NO else []
            self.names(lands, (fact,), 0, self.question, [], facts, pairs)

    def test_by_the_saying_of_the_source(self):
        fact = at_once(WHO, 0, 1)
        lands = (land([(2, 1, 0, ALONE)], [(2, 0, ask(0, whose=1))]), land([], [(2, 0, ask(0, whose=2))]))
        self.names(lands, (fact,), 0, self.question, [(0, 2, 1)], [fact], [(WHO, 0), (WHO, 2)])

    def test_by_the_saying_of_the_day(self):
        lands = (land([], [(2, 9, ask(0, whose=1)), (2, 10, ask(0, whose=2)), (2, 11, ask(0, whose=3))]),)
        self.names(lands, (), 0, self.question, [], [], [(WHO, 2)])
        self.names(lands, (), 0, (2, WHO, 9), [], [], [(WHO, 1)])


class OfTreesWithinTrees(Checked):
    def test_all_that_is_within(self):
        first = land(
            [(1, 2, 0, ALONE), (3, 1, 1, COURT)],
            [(3, 0, ask(2, ask(0, YES, NO, 1), NO, 3, 1))],
        )
        then = land(
            [(0, 4, 2, TAKEN), (3, 6, 0, ALONE)],
            [(0, 0, YES), (1, 0, ask(0, YES, NO)), (2, 0, ask(1, ask(0, YES, NO, 0), NO, 1))],
        )
        facts = [
            at_once(2, 0, 0), (2, 1, 0, ("with", 5)), (5, 2, 3, ("with", 6)), (6, 2, 0, ("in", 1)),
            at_once(WHO, 0, 0), at_once(WHO, 1, 1), (WHO, 2, 1, ("with", 9)), (WHO, 3, 5, ("with", 2)),
        ]
        beside = [(2, 2, 0, ("with", 9)), (5, 0, 0, ("in", 1)), (WHO, 3, 4, ("with", 9)), (9, 0, 0, ("with", 1))]
        book = tuple(sorted(facts + beside))
        # At 0: court to 1, alone by role 0 back to 0. There 2 is asked about at 0, where kind 2 has no custom.
        rules, named_facts = [(0, 3, 1), (1, 3, 6)], [facts[4], facts[5], facts[7]]
        pairs = [(WHO, 0), (WHO, 1), (WHO, 3)]
        self.names((first, then), book, 0, (3, WHO, DAY), rules, named_facts, pairs)
        # With a rule for kind 2 at 0 it goes to 0 itself; with 2 in land 1 it goes there, and there kind 1
        # of 5 is asked, which asks kind 0 of it, and then kind 0 of nobody.
        sent = (tuple(sorted(first[0] + ((2, 0, 0, COURT),))),) + first[1:]
        self.names((sent, then), book, 0, (3, WHO, DAY), rules + [(0, 2, 0)], named_facts + [facts[0]],
                   pairs + [(2, 0)])
        moved = tuple(sorted(set(book) - {facts[0]} | {at_once(2, 0, 1)}))
        rules += [(0, 2, 0), (1, 0, 4)]
        named_facts += [at_once(2, 0, 1), facts[1], facts[2], facts[3]]
        pairs += [(2, 0), (2, 1), (5, 2), (6, 2)]
        answer, tree = answer_of((sent, then), moved, 0, (3, WHO, DAY))
        self.assertEqual([entry[0] for entry in tree[1][0][2][1]], ["with", "nobody"])
        self.names((sent, then), moved, 0, (3, WHO, DAY), rules, named_facts, pairs)

    def test_a_thing_that_is_named_twice_is_told_once(self):
        fact = (WHO, 0, 0, ("with", 3))
        customs = [(0, 0, YES), (1, 0, ask(0, YES, NO, 0)), (2, 0, ask(1, ask(0, YES, NO, 0), NO))]
        lands = (land([(0, 0, 0, COURT), (1, 0, 0, COURT), (2, 0, 0, COURT)], customs),)
        rules = [(0, 0, 0), (0, 1, 0), (0, 2, 0)]
        self.names(lands, (fact,), 0, (2, WHO, DAY), rules, [fact], [(3, 0), (WHO, 0)])

    def test_rising_by_their_numbers(self):
        customs = [(1, 0, ask(0, YES, ask(0, YES, NO, 0), 3))]
        lands = (land([(1, 10, 1, COURT)], customs), land([(0, 9, 0, ALONE), (1, 9, 2, TAKEN)], customs))
        facts = ((2, 1, 0, ("in", 1)), (2, 2, 3, ("with", 10)), (10, 2, 1, ("with", 9)), (99, 1, 0, ("with", 2)))
        book = tuple(sorted(facts + ((99, 0, 0, ("with", 2)), (99, 2, 0, ("with", 10)), (99, 3, 2, ("with", 3)))))
        _, tree = answer_of(lands, book, 0, (1, 99, DAY))
        told = named(lands, (1, 99, DAY), 0, tree)
        for rows in told:
            self.assertEqual(rows, tuple(sorted(set(rows))))
        self.assertEqual(told[0], ((0, 1, 10), (1, 0, 9), (1, 1, 9)))
        self.assertEqual(told[2], ((2, 0), (2, 1), (3, 0), (9, 2), (10, 2), (99, 0), (99, 1), (99, 2), (99, 3)))


class Bounds(Checked):
    def test_a_trail_of_sixty_facts(self):
        facts = [(who, 2, 0, ("with", who + 1)) for who in range(60)]
        lands = (land([(3, LAST_DAY, 2, COURT)]), EMPTY)
        pairs = pairs_of(facts) + [(60, 2)]
        self.names(lands, tuple(facts), 0, (3, 0, LAST_DAY), [(0, 3, LAST_DAY)], facts, pairs)
        self.names(lands, tuple(facts), 0, (3, 0, LAST_DAY - 1), *NOTHING)

    def test_twelve_rules_of_which_one_is_in_force(self):
        rules = [(kind, since, 0, ALONE) for kind in range(4) for since in (0, DAY, DAY + 1)]
        for kind in range(4):
            for day, since in ((0, 0), (9, 0), (10, 10), (11, 11), (LAST_DAY, 11)):
                self.names((land(rules),), (), 0, (kind, 0, day), [(0, kind, since)], [], [(0, 0)])


class ManyWorlds(unittest.TestCase):
    def test_just_what_was_looked_at(self):
        most = [0, 0, 0]
        for lands, book in thrown_worlds(80, 41):
            for court, question in asked(lands):
                notes = Notes()
                _, tree = plain_answer(lands, book, court, question, notes)
                told = named(lands, question, court, tree)
                self.assertEqual(told, notes.told())
                most = [max(pair) for pair in zip(most, map(len, told))]
        self.assertTrue(min(most) >= 4, most)

    def test_asked_again_in_another_order(self):
        calls = [
            (lands, question, court, answer_of(lands, book, court, question)[1])
            for lands, book, court, question in thrown_calls(4, 42)
        ]
        told = [named(*call) for call in calls]
        for place in shuffled(len(calls), 43):
            self.assertEqual(named(*calls[place]), told[place])


if __name__ == "__main__":
    unittest.main()
