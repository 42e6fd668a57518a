import unittest

from samples import is_plain, nest, paths, put_at, things_of_every_kind
from whoselaw.shapes import is_none_or_number, is_number, is_tuple, rises, same


class Numbers(unittest.TestCase):
    def test_bounds(self):
        told = [is_number(number, 2, 4) for number in (1, 2, 3, 4, 5)]
        self.assertEqual(told, [False, True, True, True, False])

    def test_truths_are_none(self):
        self.assertIs(is_number(True, 0, 1), False)
        self.assertIs(is_number(False, 0, 1), False)
        self.assertIs(is_none_or_number(False, 0, 1), False)

    def test_none_where_it_is_let_by(self):
        self.assertIs(is_number(None, 0, 1), False)
        self.assertIs(is_none_or_number(None, 0, 1), True)
        self.assertIs(is_none_or_number(1, 0, 1), True)
        self.assertIs(is_none_or_number(2, 0, 1), False)

    def test_other_things(self):
        for thing in ("1", "", [], {}, (), (1,), [1]):
            self.assertIs(is_number(thing, 0, 9), False)
            self.assertIs(is_none_or_number(thing, 0, 9), False)


class Tuples(unittest.TestCase):
    def test_sizes(self):
        told = [is_tuple((0,) * size, 1, 3) for size in range(5)]
        self.assertEqual(told, [False, True, True, True, False])

    def test_other_things(self):
        for thing in ([0, 0], {0: 0, 1: 1}, "ab", None, True, 2):
            self.assertIs(is_tuple(thing, 2, 2), False)

    def test_rising(self):
        self.assertIs(rises([]), True)
        self.assertIs(rises([(0,)]), True)
        self.assertIs(rises([(0, 5), (1, 0), (1, 1)]), True)
        self.assertIs(rises([(0, 5), (0, 5)]), False)
        self.assertIs(rises([(0, 0), (1, 1), (1, 0)]), False)


class Same(unittest.TestCase):
    told = ("in", 1, (0, (None, True, "a"), False), ())

    def test_the_same(self):
        again = ("in", 1, (0, (None, True, "a"), False), ())
        self.assertIs(same(self.told, again), True)

    def test_each_part_put_otherwise(self):
        for path in paths(self.told):
            for new in (None, True, False, 0, 1, 2, "in", "a", (), [], {}, (0,)):
                changed = put_at(self.told, path, new)
                alike = repr(changed) == repr(self.told)
                self.assertIs(same(self.told, changed), alike, changed)

    def test_things_of_every_kind(self):
        for thing in things_of_every_kind():
            self.assertIs(same(self.told, thing), False)
            for simple in (None, True, False, 0, 1, "", "in"):
                self.assertIs(same(simple, thing), repr(simple) == repr(thing))

    def test_deep_things(self):
        deep = nest(40, lambda inner: (inner,))
        self.assertTrue(is_plain(deep))
        self.assertIs(same(deep, nest(40, lambda inner: (inner,))), True)
        self.assertIs(same(deep, nest(39, lambda inner: (inner,))), False)
        self.assertIs(same(deep, nest(40, lambda inner: (inner,), False)), False)


if __name__ == "__main__":
    unittest.main()
