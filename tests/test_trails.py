import copy
import random
import unittest

from plain import plain_trail
from samples import is_plain, part_at, paths, put_at, things_of_every_kind
from whoselaw.facts import is_book
from whoselaw.trails import trail_holds, trail_of

LAST_DAY = 10 ** 9
LANDS = (((), (), (), (), ()),) * 3

# Role 1 leads from 4 by 2 and 7 to land 1 on day 10; elder and later facts stand beside.
WAY = (
    (2, 1, 3, ("with", 7)),
    (2, 1, 11, ("in", 0)),
    (4, 0, 5, ("in", 2)),
    (4, 1, 2, ("in", 0)),
    (4, 1, 5, ("with", 2)),
    (7, 1, 0, ("with", 4)),
    (7, 1, 10, ("in", 1)),
    (7, 2, 10, ("in", 2)),
)
TRAIL = ("in", 1, ((4, 1, 5, ("with", 2)), (2, 1, 3, ("with", 7)), (7, 1, 10, ("in", 1))))
OPEN = ("open", 0, ((1, 0, 0, ("with", 0)),))
ROUND = ("round", 1, ((0, 0, 0, ("with", 1)), (1, 0, 1, ("with", 2)), (2, 0, 1, ("with", 1))))


class Trails(unittest.TestCase):
    def check(self, book, pair, day, trail):
        self.assertTrue(is_book(LANDS, book))
        for _ in range(2):
            told = trail_of(book, pair, day)
            self.assertEqual(told, trail)
            self.assertTrue(is_plain(told))
            self.assertIs(trail_holds(book, pair, day, trail), True)
        self.assertEqual(plain_trail(book, pair, day), trail)

    def test_open_at_once(self):
        self.check((), (5, 0), 10, ("open", 5, ()))
        self.check(((5, 1, 0, ("in", 0)),), (5, 0), 10, ("open", 5, ()))
        self.check(((5, 0, 11, ("in", 0)),), (5, 0), 10, ("open", 5, ()))

    def test_open_later(self):
        first, then = (5, 0, 1, ("with", 3)), (3, 0, 10, ("with", 8))
        self.check((then, first), (5, 0), 10, ("open", 8, (first, then)))
        self.check((then, first), (5, 0), 9, ("open", 3, (first,)))

    def test_in_a_land_at_once(self):
        fact = (5, 0, 10, ("in", 2))
        self.check((fact,), (5, 0), 10, ("in", 2, (fact,)))
        self.check((fact,), (5, 0), LAST_DAY, ("in", 2, (fact,)))
        self.check((fact,), (5, 0), 9, ("open", 5, ()))

    def test_in_a_land_later_with_elder_and_later_facts_beside(self):
        self.check(WAY, (4, 1), 10, TRAIL)
        self.check(WAY, (4, 1), 11, ("in", 0, (WAY[4], WAY[1])))
        self.check(WAY, (4, 1), 4, ("in", 0, (WAY[3],)))
        self.check(WAY, (4, 0), 10, ("in", 2, (WAY[2],)))

    def test_a_land_of_the_number_of_a_one_come_through_is_no_round(self):
        book = ((0, 0, 0, ("with", 1)), (1, 0, 0, ("in", 0)))
        self.check(book, (0, 0), 0, ("in", 0, book))
        own = ((1, 0, 0, ("in", 1)),)
        self.check(own, (1, 0), 0, ("in", 1, own))

    def test_a_round_to_the_first_one(self):
        self.check(WAY, (4, 1), 9, ("round", 4, (WAY[4], WAY[0], WAY[5])))
        pair = ((3, 2, 0, ("with", 8)), (8, 2, 0, ("with", 3)))
        self.check(pair, (3, 2), 0, ("round", 3, pair))
        self.check(pair, (8, 2), 0, ("round", 8, (pair[1], pair[0])))

    def test_a_round_to_one_in_between(self):
        book = ROUND[2]
        self.check(book, (0, 0), 1, ROUND)
        self.check(book, (1, 0), 1, ("round", 1, book[1:]))

    def test_sixty_facts(self):
        facts = tuple((who, 3, who, ("with", who + 1)) for who in range(60))
        self.check(facts, (0, 3), LAST_DAY, ("open", 60, facts))
        self.check(facts, (0, 3), 58, ("open", 59, facts[:59]))
        landed = put_at(facts, (59, 3), ("in", 2))
        self.check(landed, (0, 3), 59, ("in", 2, landed))
        for back in (0, 30, 58):
            turned = put_at(facts, (59, 3), ("with", back))
            self.check(turned, (0, 3), 59, ("round", back, turned))

    def test_sixty_facts_downwards(self):
        facts = tuple((who, 0, 0, ("with", who - 1)) for who in range(40, 100))
        self.check(facts, (99, 0), 0, ("open", 39, facts[::-1]))

    def test_what_is_somewhat_beyond(self):
        self.assertEqual(trail_of(WAY, (100, 4), 5), ("open", 100, ()))
        self.assertEqual(trail_of(WAY, (4, 1), -1), ("open", 4, ()))
        self.assertIs(trail_holds(WAY, (100, 4), 5, ("open", 100, ())), True)

    def test_many_books(self):
        dice = random.Random(7)
        words = set()
        for _ in range(400):
            book = {}
            for _ in range(dice.randrange(12)):
                who, other = dice.sample(range(6), 2)
                at = ("with", other) if dice.randrange(4) else ("in", dice.randrange(3))
                book[(who, dice.randrange(2), dice.randrange(4))] = at
            book = tuple(key + (book[key],) for key in sorted(book))
            for who in range(6):
                for day in range(4):
                    trail = plain_trail(book, (who, 0), day)
                    words.add((trail[0], min(len(trail[2]), 4)))
                    self.check(book, (who, 0), day, trail)
        self.assertGreaterEqual(len(words), 10)


class Holds(unittest.TestCase):
    cases = (
        (WAY, (4, 1), 10, TRAIL),
        ((OPEN[2]), (1, 0), 0, OPEN),
        ((), (1, 0), 0, ("open", 1, ())),
        (ROUND[2], (0, 0), 1, ROUND),
        (((0, 0, 0, ("in", 0)),), (0, 0), 0, ("in", 0, ((0, 0, 0, ("in", 0)),))),
    )

    def bad(self, book, pair, day, thing):
        self.assertIs(trail_holds(book, pair, day, thing), False, repr(thing)[:500])

    def test_the_trail_itself(self):
        for book, pair, day, trail in self.cases:
            self.assertEqual(trail_of(book, pair, day), trail)
            self.assertIs(trail_holds(book, pair, day, copy.deepcopy(trail)), True)

    def test_any_one_part_put_otherwise(self):
        others = (None, True, False, 0, 1, 2, 3, -1, 99, 10 ** 59, "in", "with", "open", "round", "", (), [], {}, (0,))
        for book, pair, day, trail in self.cases:
            for path in paths(trail):
                for new in others:
                    changed = put_at(trail, path, new)
                    if repr(changed) != repr(trail):
                        self.bad(book, pair, day, changed)

    def test_true_for_1_and_false_for_0(self):
        changes = 0
        for book, pair, day, trail in self.cases:
            for path in paths(trail):
                number = part_at(trail, path)
                if type(number) is int and number in (0, 1):
                    changes += 1
                    self.bad(book, pair, day, put_at(trail, path, bool(number)))
        self.assertGreater(changes, 20)

    def test_a_list_in_a_tuples_stead(self):
        for book, pair, day, trail in self.cases:
            for path in paths(trail):
                part = part_at(trail, path)
                if isinstance(part, tuple):
                    self.bad(book, pair, day, put_at(trail, path, list(part)))
                    self.bad(book, pair, day, put_at(trail, path, dict(enumerate(part))))

    def test_a_part_more_or_less(self):
        for book, pair, day, trail in self.cases:
            for path in paths(trail):
                part = part_at(trail, path)
                if isinstance(part, tuple):
                    for more in (None, 0, "in", ()):
                        self.bad(book, pair, day, put_at(trail, path, part + (more,)))
                        self.bad(book, pair, day, put_at(trail, path, (more,) + part))
                    if part:
                        self.bad(book, pair, day, put_at(trail, path, part[:-1]))
                        self.bad(book, pair, day, put_at(trail, path, part[1:]))

    def test_a_fact_more_fewer_or_another_one(self):
        word, land, facts = TRAIL
        for fact in WAY:
            self.bad(WAY, (4, 1), 10, (word, land, facts + (fact,)))
            self.bad(WAY, (4, 1), 10, (word, land, (fact,) + facts))
            for place in range(3):
                if fact != facts[place]:
                    self.bad(WAY, (4, 1), 10, put_at(TRAIL, (2, place), fact))
        for place in range(3):
            self.bad(WAY, (4, 1), 10, (word, land, facts[:place] + facts[place + 1:]))
        self.bad(WAY, (4, 1), 10, (word, land, tuple(sorted(facts))))

    def test_the_trail_of_another_pair_or_day(self):
        asked = [((who, role), day) for who in (2, 4, 5, 7) for role in range(3) for day in (0, 4, 9, 10, 11)]
        for pair, day in asked:
            for other_pair, other_day in asked:
                trail = plain_trail(WAY, other_pair, other_day)
                alike = trail == plain_trail(WAY, pair, day)
                self.assertIs(trail_holds(WAY, pair, day, trail), alike)

    def test_the_trail_of_another_book(self):
        self.bad(WAY[:6], (4, 1), 10, TRAIL)
        self.bad((), (4, 1), 10, TRAIL)

    def test_things_of_every_kind(self):
        for thing in things_of_every_kind() + [()]:
            for book, pair, day, trail in self.cases:
                self.bad(book, pair, day, thing)
                self.bad(book, pair, day, (trail[0], trail[1], (thing,)))
                self.bad(book, pair, day, (trail[0], (thing,), trail[2]))
                self.bad(book, pair, day, ((thing,), trail[1], trail[2]))

    def test_what_was_handed_in_stays(self):
        thing = ["in", 1, [list(TRAIL), {"a": TRAIL}]]
        kept = copy.deepcopy(thing)
        self.bad(WAY, (4, 1), 10, thing)
        self.assertEqual(thing, kept)


if __name__ == "__main__":
    unittest.main()
