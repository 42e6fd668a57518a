"""Point 3 of the document, (d): shares come to one; what somebody leaves is dealt out whole by each court."""

import random
import unittest
from fractions import Fraction

from plain_deals import plain_holder
from samples import at_once, beside, land
from whoselaw.dealing import dealt
from whoselaw.dealpaper import dealing_holds
from whoselaw.estates import left_by, totals
from whoselaw.facts import is_book
from whoselaw.lands import are_lands
from worlds import FOLK, LAST_WORLD_DAY, full_worlds

LAST_DAY = 10 ** 9


class DealtOutWhole(unittest.TestCase):
    def whole_dealing(self, dealing):
        """Shares in lowest terms that come to one, each heir once."""
        word, told = dealing
        if word == "land":
            self.assertIs(type(told), int)
            return
        self.assertEqual(word, "ones")
        ones = [one for one, _ in told]
        self.assertEqual(ones, sorted(set(ones)))
        for _, (above, below) in told:
            self.assertGreater(above, 0)
            self.assertEqual(Fraction(above, below).as_integer_ratio(), (above, below))
        self.assertEqual(sum(Fraction(*share) for _, share in told), 1)

    def whole_estate(self, lands, book, who, kind, day, worths):
        """By each court, with each thing that this one holds and no other."""
        held = [thing for thing in range(100) if plain_holder(book, thing, day) == who]
        whole = sum(worth for thing, worth in worths if thing in held)
        for court in range(len(lands)):
            left = left_by(lands, book, court, kind, who, day)
            self.assertEqual([thing for thing, _ in left], held)
            for thing, dealing in left:
                self.whole_dealing(dealing)
                told = dealt(lands, book, court, kind, thing, day)
                self.assertEqual(told[0], dealing)
                self.assertIs(dealing_holds(lands, book, court, kind, thing, day, *told), True)
            told = totals(left, worths)
            heirs = [heir for heir, _ in told]
            self.assertEqual(heirs, sorted(set(heirs)))
            self.assertEqual(sum(Fraction(*amount) for _, amount in told), whole)
        return held

    def test_of_many_worlds(self):
        dice = random.Random(111)
        most = 0
        for lands, book in full_worlds(50, 112):
            for who in range(FOLK):
                worths = tuple((thing, dice.randrange(1000)) for thing in range(FOLK))
                held = self.whole_estate(lands, book, who, dice.randrange(4), dice.randrange(5), worths)
                most = max(most, len(held))
        self.assertGreater(most, 3)

    def test_each_thing_has_one_holder_and_is_left_by_that_one_alone(self):
        for lands, book in full_worlds(30, 113):
            left = [thing for who in range(100) for thing, _ in left_by(lands, book, 0, 0, who, LAST_WORLD_DAY)]
            held = [thing for thing in range(100) if plain_holder(book, thing, LAST_WORLD_DAY) is not None]
            self.assertEqual(sorted(left), held)

    def test_at_the_bounds(self):
        ranks = (((0, 9, 0, 0), (1, 8, 0, 1), (2, 7, 0, 0)), ((0, 5, None, 0), (1, 7, None, 0), (2, 9, None, 0)),
                 ((2, 1, None, 0),))
        lands = tuple(land([(3, 0, 0, way)], (), [(LAST_DAY, ranks)]) for way in (0, 1, 2, 0, 1))
        kin = [beside(one, one % 3, 99, LAST_DAY) for one in range(1, 41)]
        things = [beside(thing, 3, 99) for thing in range(60, 70)] + [beside(0, 3, 99, LAST_DAY)]
        book = tuple(sorted(kin + things + [at_once(thing, 0, thing % 5) for thing in range(60, 69)]))
        self.assertEqual(len(book), 60)
        self.assertTrue(are_lands(lands) and is_book(lands, book))
        worths = tuple((thing, LAST_DAY) for thing in range(100))
        held = self.whole_estate(lands, book, 99, 3, LAST_DAY, worths)
        self.assertEqual(held, [0] + list(range(60, 70)))
        held = self.whole_estate(lands, book, 99, 3, 0, worths)
        self.assertEqual(held, list(range(60, 70)))


if __name__ == "__main__":
    unittest.main()
