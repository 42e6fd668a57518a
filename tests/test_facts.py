import copy
import unittest

from samples import is_plain, part_at, paths, put_at, things_of_every_kind
from whoselaw.facts import is_book, stands, stood_with
from whoselaw.lands import are_lands

LAST_DAY = 10 ** 9
EMPTY = ((), (), (), (), ())
TWO = (EMPTY, EMPTY)
FIVE = (EMPTY,) * 5
BOOK = (
    (1, 0, 1, ("in", 1)),
    (1, 1, 0, ("with", 0)),
    (2, 1, 5, ("in", 0)),
    (2, 1, 6, ("with", 1)),
)


class Checked(unittest.TestCase):
    def good(self, thing, lands=TWO):
        self.assertIs(is_book(lands, thing), True, thing)

    def bad(self, thing, lands=TWO):
        self.assertIs(is_book(lands, thing), False, repr(thing)[:500])


class Books(Checked):
    def test_the_lands_are_such(self):
        self.assertTrue(are_lands(TWO))
        self.assertTrue(are_lands(FIVE))

    def test_none_to_sixty_facts(self):
        facts = tuple((who, 0, 5, ("in", 0)) for who in range(61))
        for many in range(61):
            self.good(facts[:many])
        self.bad(facts)

    def test_sixty_facts_of_one_pair_and_of_one_with_another(self):
        self.good(tuple((7, 3, day, ("with", day)) for day in range(10, 70)))
        self.bad(tuple((7, 3, day, ("with", day)) for day in range(10, 71)))

    def test_each_number_at_its_bounds(self):
        for who in (0, 99):
            for role in (0, 3):
                for day in (0, LAST_DAY):
                    for at in (("in", 0), ("in", 4), ("with", 99 - who), ("with", 50)):
                        self.good(((who, role, day, at),), FIVE)

    def test_each_number_just_beyond(self):
        fact = (5, 2, 7, ("in", 1))
        self.good((fact,))
        for place, low, high in ((0, 0, 99), (1, 0, 3), (2, 0, LAST_DAY)):
            self.good((put_at(fact, (place,), low),))
            self.good((put_at(fact, (place,), high),))
            for number in (low - 1, high + 1, -10 ** 59, 10 ** 59):
                self.bad((put_at(fact, (place,), number),))

    def test_a_one_with_another_one(self):
        for number in (-1, 100, 10 ** 59):
            self.bad(((5, 0, 0, ("with", number)),))
        for who in (0, 5, 99):
            for other in range(100):
                self.assertIs(is_book(TWO, ((who, 0, 0, ("with", other)),)), who != other)

    def test_a_land_that_these_lands_have(self):
        for many in range(1, 6):
            lands = (EMPTY,) * many
            for land in range(-2, 8):
                told = is_book(lands, ((5, 0, 0, ("in", land)),))
                self.assertIs(told, 0 <= land < many)

    def test_one_may_be_in_the_land_of_its_own_number(self):
        self.good(((1, 0, 0, ("in", 1)),))

    def test_words(self):
        for word in ("", "In", "in ", "with ", "no", "at", None, 0, ("in",)):
            self.bad(((5, 0, 0, (word, 1)),))

    def test_rising(self):
        self.good(((1, 1, 5, ("in", 1)), (1, 1, 6, ("in", 0))))
        self.good(((1, 1, 6, ("in", 1)), (1, 2, 5, ("in", 0))))
        self.good(((1, 2, 6, ("in", 1)), (2, 1, 5, ("in", 0))))
        self.bad(((1, 1, 6, ("in", 0)), (1, 1, 5, ("in", 1))))
        self.bad(((1, 2, 5, ("in", 0)), (1, 1, 6, ("in", 1))))
        self.bad(((2, 1, 5, ("in", 0)), (1, 2, 6, ("in", 1))))
        self.bad(((1, 0, 0, ("in", 0)), (3, 0, 0, ("in", 0)), (2, 0, 0, ("in", 0))))

    def test_no_two_with_the_same_who_role_and_day(self):
        self.bad(((1, 1, 5, ("in", 0)), (1, 1, 5, ("in", 0))))
        self.bad(((1, 1, 5, ("in", 0)), (1, 1, 5, ("in", 1))))
        self.bad(((1, 1, 5, ("in", 0)), (1, 1, 5, ("with", 0))))

    def test_the_last_fact_is_looked_at_too(self):
        facts = tuple((who, 0, 5, ("in", 0)) for who in range(60))
        for place in range(60):
            self.bad(put_at(facts, (place, 3), ("in", 2)))
            self.bad(put_at(facts, (place, 2), True))


class WrongThings(Checked):
    def test_another_thing_in_each_place(self):
        self.good(BOOK)
        for path in paths(BOOK):
            for new in (None, "", "say", "1", [], {}, [0], {0: 0}, 10 ** 59):
                self.bad(put_at(BOOK, path, new))
            if path:
                self.bad(put_at(BOOK, path, ()))

    def test_truths_where_a_number_is_due(self):
        for path in paths(BOOK):
            self.bad(put_at(BOOK, path, True))
            self.bad(put_at(BOOK, path, False))
        self.bad(((False, 0, 0, ("in", 0)),))
        self.bad(((0, False, 0, ("in", 0)),))
        self.bad(((0, 0, True, ("in", 0)),))
        self.bad(((0, 0, 0, ("in", False)),))
        self.bad(((0, 0, 0, ("with", True)),))

    def test_a_list_in_a_tuples_stead(self):
        for path in paths(BOOK):
            part = part_at(BOOK, path)
            if isinstance(part, tuple):
                self.bad(put_at(BOOK, path, list(part)))
                self.bad(put_at(BOOK, path, dict(enumerate(part))))
        self.bad([])
        self.bad({})

    def test_a_part_more_or_less(self):
        for path in ((0,), (3,), (0, 3), (3, 3)):
            part = part_at(BOOK, path)
            self.bad(put_at(BOOK, path, part[:-1]))
            self.bad(put_at(BOOK, path, part[1:]))
            for more in (None, 0, "in", ()):
                self.bad(put_at(BOOK, path, part + (more,)))

    def test_things_of_every_kind(self):
        for thing in things_of_every_kind():
            self.bad(thing)
            self.bad((thing,))
            self.bad(BOOK + (thing,))
            self.bad(((1, 0, 0, thing),))
            self.bad(((1, 0, 0, ("in", (thing,))),))
            self.bad(((1, 0, 0, ((thing,), 0)),))
            if type(thing) is not int:
                self.bad(((thing, 0, 0, ("in", 0)),))
                self.bad(((1, thing, 0, ("in", 0)),))
                self.bad(((1, 0, thing, ("in", 0)),))
                self.bad(((1, 0, 0, ("in", thing)),))
                self.bad(((1, 0, 0, ("with", thing)),))

    def test_the_same_call_tells_the_same(self):
        thing = [list(BOOK), {"a": BOOK}]
        kept = copy.deepcopy(thing)
        for _ in range(3):
            self.good(BOOK)
            self.bad(thing)
            self.good(())
        self.assertEqual(thing, kept)


class Stands(unittest.TestCase):
    book = (
        (0, 1, 10, ("in", 1)),
        (1, 0, 15, ("in", 0)),
        (1, 1, 10, ("with", 9)),
        (1, 1, 20, ("in", 0)),
        (1, 1, 21, ("with", 2)),
        (1, 2, 0, ("in", 1)),
        (1, 2, LAST_DAY, ("in", 0)),
        (2, 1, 12, ("in", 1)),
    )

    def test_each_day(self):
        self.assertTrue(is_book(TWO, self.book))
        facts = self.book
        expected = {
            ((1, 1), 0): None, ((1, 1), 9): None, ((1, 1), 10): facts[2], ((1, 1), 11): facts[2],
            ((1, 1), 19): facts[2], ((1, 1), 20): facts[3], ((1, 1), 21): facts[4], ((1, 1), 22): facts[4],
            ((1, 1), LAST_DAY): facts[4],
            ((1, 2), 0): facts[5], ((1, 2), 1): facts[5], ((1, 2), LAST_DAY - 1): facts[5],
            ((1, 2), LAST_DAY): facts[6],
            ((0, 1), 9): None, ((0, 1), 10): facts[0], ((0, 1), 11): facts[0],
            ((1, 0), 14): None, ((1, 0), 15): facts[1], ((2, 1), 11): None, ((2, 1), 12): facts[7],
            ((0, 0), LAST_DAY): None, ((3, 1), LAST_DAY): None, ((1, 3), LAST_DAY): None, ((2, 2), LAST_DAY): None,
        }
        for _ in range(2):
            for (pair, day), fact in expected.items():
                told = stands(self.book, pair, day)
                self.assertEqual(told, fact, (pair, day))
                self.assertTrue(is_plain(told))

    def test_nothing_stands_in_an_empty_book(self):
        self.assertIsNone(stands((), (0, 0), LAST_DAY))

    def test_what_is_somewhat_beyond(self):
        self.assertIsNone(stands(self.book, (1, 1), -1))
        self.assertIsNone(stands(self.book, (100, 4), 50))
        self.assertEqual(stands(self.book, (1, 1), LAST_DAY + 1), self.book[4])


class StoodWith(unittest.TestCase):
    book = (
        (1, 0, 10, ("with", 5)),
        (2, 0, 10, ("with", 5)),
        (2, 0, 20, ("in", 1)),
        (3, 0, 10, ("with", 5)),
        (3, 0, 20, ("with", 6)),
        (4, 0, 10, ("with", 6)),
        (4, 0, 20, ("with", 5)),
        (5, 0, 10, ("with", 1)),
        (6, 0, 0, ("in", 0)),
        (7, 0, 10, ("with", 5)),
        (7, 0, 12, ("with", 5)),
        (8, 1, 10, ("with", 5)),
        (9, 0, 30, ("with", 5)),
    )

    def test_by_what_stands_on_that_day_alone(self):
        self.assertTrue(is_book(TWO, self.book))
        expected = {
            (0, 5, 9): (), (0, 5, 10): (1, 2, 3, 7), (0, 5, 11): (1, 2, 3, 7), (0, 5, 19): (1, 2, 3, 7),
            (0, 5, 20): (1, 4, 7), (0, 5, 29): (1, 4, 7), (0, 5, 30): (1, 4, 7, 9), (0, 5, LAST_DAY): (1, 4, 7, 9),
            (0, 6, 10): (4,), (0, 6, 20): (3,), (1, 5, 10): (8,), (1, 5, 9): (), (0, 1, 10): (5,),
            (2, 5, 50): (), (3, 5, 50): (), (0, 0, 50): (), (0, 99, 50): (),
        }
        for _ in range(2):
            for (role, one, day), ones in expected.items():
                told = stood_with(self.book, role, one, day)
                self.assertEqual(told, ones, (role, one, day))
                self.assertIs(type(told), tuple)
                self.assertTrue(is_plain(told))

    def test_in_a_land_of_that_number_is_not_with(self):
        book = ((5, 0, 0, ("in", 1)), (6, 0, 0, ("with", 1)))
        self.assertEqual(stood_with(book, 0, 1, 0), (6,))

    def test_an_empty_book(self):
        self.assertEqual(stood_with((), 0, 0, LAST_DAY), ())

    def test_sixty_ones_rising(self):
        book = tuple((who, 2, 3, ("with", 99)) for who in range(39, 99))
        self.assertTrue(is_book(TWO, book))
        self.assertEqual(stood_with(book, 2, 99, 3), tuple(range(39, 99)))
        self.assertEqual(stood_with(book, 2, 99, 2), ())


if __name__ == "__main__":
    unittest.main()
