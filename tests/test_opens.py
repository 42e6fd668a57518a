import copy
import itertools
import random
import unittest

from plain_opens import fillings, plain_filled
from samples import EMPTY, at_once, beside, changes, is_plain, part_at, paths, put_at, things_of_every_kind
from whoselaw.facts import is_book
from whoselaw.opens import filled, is_filling, is_opens
from worlds import full_worlds, shuffled, thrown_opens

LAST_DAY = 10 ** 9
TWO = (EMPTY, EMPTY)
FIVE = (EMPTY,) * 5
NOWHERE = ("no",)
IN_FIVE = tuple(("in", number) for number in range(5))
OPENS = (
    (1, 0, (("in", 0), ("in", 1), NOWHERE, ("with", 0))),
    (1, 3, (("with", 0), ("with", 2))),
    (4, 1, (NOWHERE,)),
)


class Checked(unittest.TestCase):
    def good(self, thing, lands=TWO):
        self.assertIs(is_opens(lands, thing), True, thing)

    def bad(self, thing, lands=TWO):
        if is_opens(lands, thing) is not False:
            self.fail(repr(thing)[:500])


class Opens(Checked):
    def test_none_to_five_opens(self):
        opens = tuple((who, 0, (NOWHERE,)) for who in range(7))
        for many in range(6):
            self.good(opens[:many])
        self.bad(opens[:6])
        self.bad(opens)

    def test_one_to_six_options(self):
        options = IN_FIVE + (NOWHERE, ("with", 3))
        for many in range(1, 7):
            self.good(((1, 0, options[:many]),), FIVE)
            self.good(((1, 0, options[-many:]),), FIVE)
        self.bad(((1, 0, ()),), FIVE)
        self.bad(((1, 0, options),), FIVE)

    def test_options_multiplied(self):
        def of_sizes(sizes):
            choices = IN_FIVE + (NOWHERE,)
            return tuple((who, 0, choices[:many]) for who, many in enumerate(sizes))

        for sizes in ((4, 4, 4), (2, 2, 2, 2, 4), (6, 5, 2), (3, 3, 3, 2), (2,) * 5, (6,), (1, 4, 4, 4), (6, 6, 1)):
            self.good(of_sizes(sizes), FIVE)
        for sizes in ((5, 4, 4), (4, 4, 4, 2), (6, 6, 2), (6, 5, 3), (3, 3, 3, 3), (6,) * 5, (5, 1, 1, 1, 1, 1)):
            self.bad(of_sizes(sizes), FIVE)
        for sizes in itertools.product((1, 2, 3, 4, 6), repeat=3):
            many = sizes[0] * sizes[1] * sizes[2]
            self.assertIs(is_opens(FIVE, of_sizes(sizes)), many <= 64)

    def test_numbers_at_their_bounds_and_just_beyond(self):
        for lands in ((EMPTY,), TWO, FIVE):
            row = (50, 2, (("in", 0), ("with", 51)))
            bounds = (((0,), 0, 99), ((1,), 0, 3), ((2, 0, 1), 0, len(lands) - 1), ((2, 1, 1), 0, 99))
            for path, low, high in bounds:
                for number in (low, high):
                    self.good((put_at(row, path, number),), lands)
                for number in (low - 1, high + 1, 10 ** 59, -(10 ** 59)):
                    self.bad((put_at(row, path, number),), lands)

    def test_truths_are_no_numbers(self):
        opens = ((0, 1, (("in", 0), ("in", 1), ("with", 1))), (1, 0, (("with", 0),)))
        self.good(opens)
        changed = 0
        for path in paths(opens):
            number = part_at(opens, path)
            if type(number) is int:
                changed += 1
                self.bad(put_at(opens, path, bool(number)))
        self.assertEqual(changed, 8)

    def test_an_option_with_the_opens_own_who(self):
        for who in (0, 1, 99):
            self.bad(((who, 0, (("with", who),)),))
            self.bad(((who, 0, (("in", 0), NOWHERE, ("with", who))),))
            self.good(((who, 0, (("with", 50),)),))
        # A land with the number of the who is another thing.
        self.good(((1, 0, (("in", 1),)),))

    def test_two_with_the_same_who_and_role(self):
        self.bad(((1, 0, (("in", 0),)), (1, 0, (("in", 1),))))
        self.bad(((1, 0, (NOWHERE,)), (1, 0, (NOWHERE,))))
        self.good(((1, 0, (NOWHERE,)), (1, 1, (NOWHERE,))))
        self.good(((1, 0, (NOWHERE,)), (2, 0, (NOWHERE,))))

    def test_not_rising(self):
        self.good(OPENS)
        for order in itertools.permutations(OPENS):
            if order != OPENS:
                self.bad(order)
        options = OPENS[0][2]
        for order in itertools.permutations(options):
            self.assertIs(is_opens(TWO, ((1, 0, order),)), order == options)
        self.bad(((1, 0, (NOWHERE, NOWHERE)),))
        self.bad(((1, 0, (("in", 0), ("in", 0))),))
        self.bad(((1, 0, (("with", 3), ("with", 3))),))

    def test_other_options(self):
        for option in (("no", 0), ("no", None), ("in",), ("with",), (), "no", ["no"], ("No",), ("nowhere",),
                       ("in", 0, 0), ("open", 0), ("with", None), ("in", "0"), (NOWHERE,), None, 0, ("",), ("in", (0,)),
                       {"no": 0}):
            self.bad(((1, 0, (option,)),))
            self.bad(((1, 0, (("in", 0), option)),))

    def test_a_part_more_or_fewer_or_a_list(self):
        for place, row in enumerate(OPENS):
            for made in (row + (0,), row[:-1], row[1:], (), list(row), (row,), None, row[:2] + (list(row[2]),),
                         row[:2] + row[2]):
                self.bad(put_at(OPENS, (place,), made))
        self.bad(list(OPENS))
        self.bad([])
        self.bad(OPENS[0])
        self.bad(dict(enumerate(OPENS)))

    def test_any_one_part_put_otherwise(self):
        for changed in changes(OPENS):
            lawful = is_opens(TWO, changed)
            self.assertIs(type(lawful), bool)
            if lawful:
                self.assertTrue(is_plain(changed))
                for who, role, options in changed:
                    self.assertEqual((type(who), type(role)), (int, int))
                    self.assertEqual(tuple(sorted(set(options))), options)
                    self.assertNotIn(("with", who), options)

    def test_things_of_every_kind(self):
        self.good(())
        for thing in things_of_every_kind():
            self.bad(thing)
            self.bad((thing,))
            self.bad(OPENS + (thing,))
            self.bad((thing,) + OPENS)
            for place in range(3):
                if type(thing) is not int:
                    self.bad((put_at(OPENS[0], (place,), thing),))
            self.bad(((1, 0, (thing,)),))

    def test_what_was_handed_in_stays(self):
        thing = [list(row) for row in OPENS]
        kept = copy.deepcopy(thing)
        self.bad(thing)
        self.bad(tuple(thing))
        self.assertEqual(thing, kept)

    def test_thrown_ones(self):
        dice = random.Random(141)
        for lands, _ in full_worlds(100, 142):
            self.good(thrown_opens(dice, len(lands)), lands)


class Fillings(unittest.TestCase):
    def test_just_one_option_of_each_in_order(self):
        right = fillings(OPENS)
        self.assertEqual(len(right), 8)
        for filling in right:
            self.assertIs(is_filling(OPENS, filling), True)
            for changed in changes(filling):
                self.assertIs(is_filling(OPENS, changed), repr(changed) in [repr(each) for each in right])
        self.assertIs(is_filling((), ()), True)
        for thing in things_of_every_kind():
            self.assertIs(is_filling(OPENS, thing), False)
            self.assertIs(is_filling((), thing), False)


class Filled(unittest.TestCase):
    def fill(self, book, opens, filling, day=10, lands=TWO):
        self.assertTrue(is_book(lands, book) and is_opens(lands, opens))
        kept = copy.deepcopy((book, opens, filling))
        told = filled(book, opens, filling, day)
        self.assertEqual((book, opens, filling), kept)
        self.assertEqual(told, plain_filled(book, opens, filling, day))
        self.assertTrue(is_plain(told))
        self.assertIs(is_book(lands, told), True)
        return told

    def test_no_opens(self):
        book = (beside(1, 0, 2), at_once(3, 1, 1, 20))
        self.assertEqual(self.fill(book, (), ()), book)
        self.assertEqual(self.fill((), (), ()), ())

    def test_facts_of_the_opens_pairs_of_whatever_day_are_left_out(self):
        others = (beside(1, 1, 3), beside(1, 2, 3), at_once(2, 0, 1))
        book = tuple(at_once(1, 0, 0, day) for day in (0, 9, 10, 11, LAST_DAY)) + others
        opens = ((1, 0, (("in", 1), NOWHERE, ("with", 3))),)
        self.assertEqual(self.fill(book, opens, (NOWHERE,)), others)
        self.assertEqual(self.fill(book, opens, (("in", 1),)), ((1, 0, 10, ("in", 1)),) + others)
        self.assertEqual(self.fill(book, opens, (("with", 3),), 0), ((1, 0, 0, ("with", 3)),) + others)
        self.assertEqual(self.fill(book, opens, (("with", 3),), LAST_DAY), ((1, 0, LAST_DAY, ("with", 3)),) + others)

    def test_facts_of_the_same_who_or_role_alone_stay(self):
        book = (beside(1, 0, 2), beside(1, 1, 2), beside(2, 0, 3), beside(2, 1, 3))
        opens = ((1, 1, (("in", 0),)), (2, 0, (NOWHERE,)))
        self.assertEqual(
            self.fill(book, opens, (("in", 0), NOWHERE)), (beside(1, 0, 2), (1, 1, 10, ("in", 0)), beside(2, 1, 3)),
        )

    def test_the_options_stand_among_the_facts_in_their_order(self):
        book = (beside(0, 0, 2), beside(1, 1, 2), beside(5, 0, 3), beside(99, 3, 0))
        opens = tuple((who, 0, (("with", 98),)) for who in (1, 4, 6, 97, 99))
        told = self.fill(book, opens, (("with", 98),) * 5, LAST_DAY)
        self.assertEqual([fact[0] for fact in told], [0, 1, 1, 4, 5, 6, 97, 99, 99])

    def test_fifty_facts_beside_five_opens(self):
        book = tuple(beside(who, 0, 99) for who in range(50))
        opens = tuple((who, 1, (("in", 4), ("with", 99))) for who in (0, 10, 49, 50, 98))
        for filling in fillings(opens):
            self.assertEqual(len(self.fill(book, opens, filling, LAST_DAY, FIVE)), 55)
            self.assertEqual(len(self.fill(book, opens, filling, 0, FIVE)), 55)

    def test_all_facts_may_be_of_one_pair_that_is_among_the_opens(self):
        book = tuple(beside(0, 0, 99, day) for day in range(50))
        opens = ((0, 0, (("in", 0), NOWHERE)),)
        self.assertEqual(self.fill(book, opens, (NOWHERE,), 20), ())
        self.assertEqual(self.fill(book, opens, (("in", 0),), 20), ((0, 0, 20, ("in", 0)),))

    def test_many_worlds(self):
        dice = random.Random(143)
        many = 0
        for lands, book in full_worlds(60, 144):
            opens = thrown_opens(dice, len(lands))
            for filling in fillings(opens):
                many += 1
                self.fill(book[:50], opens, filling, dice.choice((0, 2, LAST_DAY)), lands)
        self.assertGreater(many, 500)

    def test_asked_again_behind_others_it_tells_the_same(self):
        dice = random.Random(145)
        calls = []
        for lands, book in full_worlds(20, 146):
            opens = thrown_opens(dice, len(lands))
            calls += [(book[:50], opens, filling, 3) for filling in fillings(opens)]
        first = [filled(*call) for call in calls]
        for place in shuffled(len(calls), 147):
            self.assertEqual(filled(*calls[place]), first[place])


if __name__ == "__main__":
    unittest.main()
