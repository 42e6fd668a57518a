import copy
import random
import unittest
from fractions import Fraction

from plain_deals import plain_left, plain_totals
from samples import EMPTY, at_once, beside, is_plain, land, say
from whoselaw.dealing import dealt
from whoselaw.estates import left_by, totals
from whoselaw.facts import is_book
from whoselaw.lands import are_lands
from worlds import FOLK, LAST_WORLD_DAY, full_worlds, shuffled

ALONE, TAKEN, COURT = range(3)
LAST_DAY = 10 ** 9
OWNER, DAY = 50, 10
# By role 0 equal shares; else by role 1.
BY_KIN = land(heirs=[(0, (((0, 1, None, 0),), ((1, 1, None, 0),)))])


class Left(unittest.TestCase):
    def left(self, lands, book, who=OWNER, court=0, kind=0, day=DAY):
        self.assertTrue(are_lands(lands) and is_book(lands, book))
        told = left_by(lands, book, court, kind, who, day)
        self.assertEqual(told, plain_left(lands, book, court, kind, who, day))
        self.assertTrue(is_plain(told))
        for thing, dealing in told:
            self.assertEqual(dealing, dealt(lands, book, court, kind, thing, day)[0])
        return told

    def test_somebody_who_holds_nothing(self):
        self.assertEqual(self.left((BY_KIN,), ()), ())
        book = (beside(1, 0, OWNER), beside(2, 2, OWNER), beside(3, 3, 51), beside(OWNER, 3, 1))
        self.assertEqual(self.left((BY_KIN,), book), ())
        self.assertEqual(self.left((BY_KIN,), book, who=99), ())

    def test_one_thing(self):
        book = (beside(1, 0, OWNER), beside(2, 0, OWNER), beside(60, 3, OWNER))
        self.assertEqual(self.left((BY_KIN,), book), ((60, ("ones", ((1, (1, 2)), (2, (1, 2))))),))
        self.assertEqual(self.left((EMPTY,), book), ((60, ("land", 0)),))

    def test_several_things_that_go_to_several_lands(self):
        # A thing goes to the land that its role 2 is in; 60 is kin of the holder itself.
        lands = (land([(1, 0, 2, COURT)]), BY_KIN, land(heirs=[(0, (((0, 1, 2, 0),),))]))
        book = tuple(sorted([
            beside(0, 3, OWNER), at_once(0, 2, 1), beside(60, 3, OWNER), beside(60, 0, OWNER), at_once(60, 2, 1),
            beside(1, 1, OWNER), beside(70, 3, OWNER), at_once(70, 2, 2), beside(99, 3, OWNER),
        ]))
        self.assertEqual(self.left(lands, book, kind=1), (
            (0, ("ones", ((60, (1, 1)),))), (60, ("ones", ((1, (1, 1)),))), (70, ("land", 2)), (99, ("land", 0)),
        ))
        # By another kind, at another court.
        self.assertEqual({dealing for _, dealing in self.left(lands, book)}, {("land", 0)})
        self.assertEqual([dealing[0] for _, dealing in self.left(lands, book, court=1)], ["ones"] * 4)

    def test_thirty_things(self):
        things = list(range(0, 100, 4)) + [95, 97, 98, 99, 49]
        book = [beside(thing, 3, OWNER) for thing in things] + [beside(one, 0, OWNER) for one in range(1, 31)]
        book = tuple(sorted(book))
        self.assertEqual((len(things), len(book)), (30, 60))
        told = self.left((BY_KIN,), book)
        self.assertEqual([thing for thing, _ in told], sorted(things))
        self.assertEqual({len(dealing[1]) for _, dealing in told}, {29, 30})

    def test_things_held_earlier_or_later(self):
        book = tuple(sorted([
            beside(1, 3, OWNER), beside(1, 3, 51, DAY), beside(2, 3, OWNER), at_once(2, 3, 0, DAY),
            beside(3, 3, OWNER, DAY + 1), beside(4, 3, 51), beside(4, 3, OWNER, DAY), beside(5, 3, OWNER),
        ]))
        for day, things in ((DAY - 1, [1, 2, 5]), (DAY, [4, 5]), (DAY + 1, [3, 4, 5]), (LAST_DAY, [3, 4, 5])):
            self.assertEqual([thing for thing, _ in self.left((BY_KIN,), book, day=day)], things)

    def test_many_worlds(self):
        sizes = set()
        for lands, book in full_worlds(40, 91):
            for who in range(FOLK):
                for court in range(len(lands)):
                    sizes.add(len(self.left(lands, book, who, court, (who + court) % 4, LAST_WORLD_DAY)))
        self.assertGreater(max(sizes), 3)


class Totals(unittest.TestCase):
    def amounts(self, left, worths):
        kept = copy.deepcopy((left, worths))
        told = totals(left, worths)
        self.assertEqual(told, plain_totals(left, worths))
        self.assertEqual((left, worths), kept)
        self.assertTrue(is_plain(told))
        things = [thing for thing, _ in left]
        whole = sum(worth for thing, worth in worths if thing in things)
        self.assertEqual(sum(Fraction(*amount) for _, amount in told), whole)
        for _, (above, below) in told:
            self.assertGreaterEqual(below, 1)
            self.assertEqual((Fraction(above, below).numerator, Fraction(above, below).denominator), (above, below))
        return told

    def test_nothing_left(self):
        self.assertEqual(self.amounts((), ()), ())
        self.assertEqual(self.amounts((), ((1, 5),)), ())

    def test_lands_ahead_of_ones_rising(self):
        left = (
            (1, ("ones", ((0, (1, 3)), (99, (2, 3))))), (2, ("land", 4)), (3, ("ones", ((10, (1, 1)),))),
            (4, ("land", 0)),
        )
        worths = tuple((thing, 6) for thing in range(10))
        self.assertEqual(self.amounts(left, worths), (
            (("land", 0), (6, 1)), (("land", 4), (6, 1)),
            (("one", 0), (2, 1)), (("one", 10), (6, 1)), (("one", 99), (4, 1)),
        ))

    def test_an_heir_in_several_dealings(self):
        left = (
            (1, ("ones", ((7, (1, 3)), (8, (2, 3))))), (2, ("ones", ((7, (1, 2)), (9, (1, 2))))), (3, ("land", 1)),
            (4, ("ones", ((7, (1, 1)),))), (5, ("land", 1)),
        )
        worths = ((1, 1), (2, 1), (3, 4), (4, 10), (5, 3))
        self.assertEqual(self.amounts(left, worths), (
            (("land", 1), (7, 1)), (("one", 7), (65, 6)), (("one", 8), (2, 3)), (("one", 9), (1, 2)),
        ))

    def test_sums_in_lowest_terms(self):
        left = tuple((thing, ("ones", ((7, (1, 6)), (8, (5, 6))))) for thing in range(3))
        self.assertEqual(self.amounts(left, ((0, 1), (1, 1), (2, 1))), ((("one", 7), (1, 2)), (("one", 8), (5, 2))))
        self.assertEqual(self.amounts(left, ((0, 2), (1, 2), (2, 2))), ((("one", 7), (1, 1)), (("one", 8), (5, 1))))

    def test_things_without_a_worth_and_of_worth_nought(self):
        left = ((1, ("ones", ((7, (1, 3)), (8, (2, 3))))), (2, ("land", 3)), (3, ("ones", ((8, (1, 2)), (9, (1, 2))))))
        nought = (0, 1)
        heirs = (("land", 3), ("one", 7), ("one", 8), ("one", 9))
        for worths in ((), ((1, 0),), ((1, 0), (2, 0), (3, 0)), ((4, 5), (99, 7))):
            self.assertEqual(self.amounts(left, worths), tuple((heir, nought) for heir in heirs))
        self.assertEqual(
            self.amounts(left, ((1, 0), (3, 5))), tuple(zip(heirs, (nought, nought, (5, 2), (5, 2)))),
        )

    def test_worths_of_things_that_are_not_left(self):
        left = ((1, ("land", 0)),)
        self.assertEqual(self.amounts(left, ((0, 9), (1, 2), (2, 9))), ((("land", 0), (2, 1)),))

    def test_worths_at_their_bound(self):
        shares = tuple((one, (1, 40)) for one in range(40))
        left = tuple((thing, ("ones", shares)) for thing in range(40, 60))
        worths = tuple((thing, LAST_DAY) for thing in range(100))
        self.assertEqual(
            self.amounts(left, worths), tuple((("one", one), (5 * 10 ** 8, 1)) for one in range(40)),
        )
        left = tuple((thing, ("ones", ((0, (1, thing)), (1, (thing - 1, thing))))) for thing in range(2, 32))
        self.amounts(left, worths)
        left = tuple((thing, ("land", thing % 5)) for thing in range(30))
        self.assertEqual(self.amounts(left, worths), tuple((("land", each), (6 * 10 ** 9, 1)) for each in range(5)))

    def test_of_many_worlds(self):
        dice = random.Random(92)
        many = 0
        for lands, book in full_worlds(60, 93):
            for who in range(FOLK):
                left = left_by(lands, book, dice.randrange(len(lands)), dice.randrange(4), who, LAST_WORLD_DAY)
                things = sorted(dice.sample(range(FOLK), 5))
                worths = tuple((thing, dice.choice((0, 1, 60, LAST_DAY))) for thing in things)
                many += len(self.amounts(left, worths)) > 1
        self.assertGreater(many, 30)


class AgainAndAgain(unittest.TestCase):
    def test_asked_again_behind_others_it_tells_the_same(self):
        calls = [(lands, book, 0, 3, who, LAST_WORLD_DAY) for lands, book in full_worlds(30, 94) for who in range(FOLK)]
        kept = copy.deepcopy(calls)
        worths = tuple((thing, thing * 7) for thing in range(100))
        first = [left_by(*call) for call in calls]
        sums = [totals(left, worths) for left in first]
        for place in shuffled(len(calls), 95):
            self.assertEqual(left_by(*calls[place]), first[place])
            self.assertEqual(totals(first[place], worths), sums[place])
        self.assertEqual(calls, kept)

    def test_five_lands_and_sixty_facts(self):
        customs = [(3, 0, say(9))]
        lands = tuple(
            land([(3, 0, 2, ALONE)], customs, [(0, (((0, 9, 3, 1), (1, 8, 3, 0), (0, 7, None, 0)),) * 3)])
            for _ in range(5)
        )
        book = [beside(thing, 3, 0) for thing in range(70, 100)] + [at_once(99, 2, 4, LAST_DAY)]
        book += [beside(one, one % 2, 0) for one in range(1, 30)]
        book = tuple(sorted(book))
        self.assertTrue(are_lands(lands) and is_book(lands, book))
        for court in range(5):
            for day in (0, LAST_DAY):
                left = left_by(lands, book, court, 3, 0, day)
                self.assertEqual(left, plain_left(lands, book, court, 3, 0, day))
                self.assertEqual([thing for thing, _ in left], list(range(70, 100)))
                told = totals(left, tuple((thing, LAST_DAY) for thing in range(100)))
                self.assertEqual(sum(Fraction(*amount) for _, amount in told), 30 * LAST_DAY)


if __name__ == "__main__":
    unittest.main()
