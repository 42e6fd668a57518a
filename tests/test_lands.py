import copy
import unittest

from samples import EMPTY, NO, YES, ask, is_plain, part_at, paths, put_at, things_of_every_kind
from whoselaw.lands import are_lands, custom_at, heirs_at, reach_at, rule_at, saying_at, take_at

LAST_DAY = 10 ** 9
RULES, CUSTOMS, HEIRS, TAKES, REACHES = range(5)


def lands_with(part, rows, many=2, land=0):
    """Empty lands but for one part of one of them."""
    return put_at((EMPTY,) * many, (land, part), rows)


# A good row of each part; the take is land 0's.
ROWS = {
    RULES: (1, 5, 1, 1),
    CUSTOMS: (2, 5, ("ask", 1, 2, 1, ("say", 3), ("ask", 0, None, 0, ("say", 4), ("say", 0)))),
    HEIRS: (5, (((1, 2, 1, 1), (0, 3, None, 0)), ((2, 4, 0, 0),))),
    TAKES: (1, 5, 1),
    REACHES: (1, 5, 1),
}
# Lands that have something of everything.
FULL = (tuple((ROWS[part],) for part in range(5)), EMPTY)
# In these places of FULL None may stand: whose, twice, and the kinds of calls with mode 0.
NONE_PLACES = [
    (0, CUSTOMS, 0, 2, 2), (0, CUSTOMS, 0, 2, 5, 2),
    (0, HEIRS, 0, 1, 0, 1, 2), (0, HEIRS, 0, 1, 1, 0, 2),
]


class Checked(unittest.TestCase):
    def good(self, thing):
        self.assertIs(are_lands(thing), True, thing)

    def bad(self, thing):
        self.assertIs(are_lands(thing), False, repr(thing)[:500])

    def bounds(self, path, low, high, lands=FULL):
        """The number there may be low and high, and neither less nor more."""
        self.good(put_at(lands, path, low))
        self.good(put_at(lands, path, high))
        self.bad(put_at(lands, path, low - 1))
        self.bad(put_at(lands, path, high + 1))
        self.bad(put_at(lands, path, -10 ** 59))
        self.bad(put_at(lands, path, 10 ** 59))


class GoodLands(Checked):
    def test_one_to_five(self):
        for many in range(1, 6):
            self.good((EMPTY,) * many)
        self.bad(())
        self.bad((EMPTY,) * 6)
        self.good(FULL)

    def test_each_part_alone(self):
        for part, row in ROWS.items():
            self.good(lands_with(part, (row,)))

    def test_twelve_rows_of_each_part_but_not_thirteen(self):
        for part, row in ROWS.items():
            since = 0 if part == HEIRS else 1
            rows = tuple(put_at(row, (since,), day) for day in range(13))
            self.good(lands_with(part, rows[:12]))
            self.bad(lands_with(part, rows))

    def test_twelve_rows_of_all_parts_at_once(self):
        full = []
        for part, row in ROWS.items():
            since = 0 if part == HEIRS else 1
            full.append(tuple(put_at(row, (since,), LAST_DAY - 11 + step) for step in range(12)))
        takes = tuple((0, step, 1) for step in range(12))
        others = tuple(full[:3]) + (takes,) + (full[4],)
        self.good((tuple(full), others, others, others, others))

    def test_calls_alike(self):
        call = (0, 1, None, 0)
        self.good(lands_with(HEIRS, ((0, ((call, call, call), (call, call, call), (call,))),)))


class Bounds(Checked):
    def test_rules(self):
        for place, low, high in ((0, 0, 3), (1, 0, LAST_DAY), (2, 0, 2), (3, 0, 2)):
            self.bounds((0, RULES, 0, place), low, high)

    def test_customs(self):
        kind = lands_with(CUSTOMS, ((0, 5, ("say", 3)),))
        self.bounds((0, CUSTOMS, 0, 0), 0, 3, kind)
        self.bounds((0, CUSTOMS, 0, 1), 0, LAST_DAY)

    def test_sayings(self):
        saying = (0, CUSTOMS, 0, 2)
        self.bounds(saying + (1,), 0, 1)
        self.bounds(saying + (2,), 0, 3)
        self.bounds(saying + (3,), 0, 1)
        self.bounds(saying + (4, 1), 0, 9)
        self.bounds(saying + (5, 2), 0, 3, put_at(FULL, saying + (5, 2), 1))
        self.bounds(saying + (5, 5, 1), 0, 9)
        self.good(put_at(FULL, saying + (2,), None))

    def test_heirs(self):
        self.bounds((0, HEIRS, 0, 0), 0, LAST_DAY)
        call = (0, HEIRS, 0, 1, 0, 0)
        for place, low, high in ((0, 0, 2), (1, 1, 9), (2, 0, 3), (3, 0, 1)):
            self.bounds(call + (place,), low, high)

    def test_one_to_three_ranks_of_one_to_three_calls(self):
        call = (0, 1, None, 0)
        for ranks in range(5):
            for calls in range(5):
                lands = lands_with(HEIRS, ((0, ((call,) * calls,) * ranks),))
                self.assertIs(are_lands(lands), 1 <= ranks <= 3 and 1 <= calls <= 3, lands)

    def test_a_later_rank_is_looked_at_too(self):
        call = (0, 1, None, 0)
        for last in ((), (call,) * 4, (call, (3, 1, None, 0)), (call, call, ())):
            self.bad(lands_with(HEIRS, ((0, ((call,), last)),)))

    def test_a_call_of_no_kind_has_mode_0(self):
        call = (0, HEIRS, 0, 1, 0, 0)
        self.good(put_at(FULL, call, (1, 2, None, 0)))
        self.bad(put_at(FULL, call, (1, 2, None, 1)))
        self.bad(put_at(FULL, call, (1, 2, None, None)))
        self.good(put_at(FULL, call, (1, 2, 0, 1)))

    def test_takes(self):
        self.bounds((0, TAKES, 0, 0), 1, 1)
        self.bounds((0, TAKES, 0, 1), 0, LAST_DAY)
        self.bounds((0, TAKES, 0, 2), 0, 1)

    def test_a_take_of_each_other_land_and_of_no_other_number(self):
        for many in range(1, 6):
            for land in range(many):
                for other in range(-2, 7):
                    lands = lands_with(TAKES, ((other, 0, 1),), many, land)
                    self.assertIs(are_lands(lands), 0 <= other < many and other != land, lands)

    def test_reaches(self):
        for place, low, high in ((0, 0, 3), (1, 0, LAST_DAY), (2, 0, 2)):
            self.bounds((0, REACHES, 0, place), low, high)


class Sayings(Checked):
    def told(self, kind, saying):
        return are_lands(lands_with(CUSTOMS, ((kind, 0, saying),)))

    def test_an_ask_is_of_a_lesser_kind(self):
        for kind in range(4):
            for asked in range(-1, 5):
                self.assertIs(self.told(kind, ask(asked)), 0 <= asked < kind)

    def test_sayings_within_are_of_the_same_kind(self):
        # An ask within is held against the custom's kind, not against the kind asked above it.
        self.assertIs(self.told(3, ask(0, yes=ask(2))), True)
        self.assertIs(self.told(3, ask(0, no=ask(2))), True)
        self.assertIs(self.told(2, ask(0, yes=ask(2))), False)
        self.assertIs(self.told(2, ask(0, no=ask(2))), False)

    def test_three_asks_on_a_way_down_but_not_four(self):
        for turn in range(16):
            saying = NO
            for depth in range(4):
                self.assertIs(self.told(1, saying), True)
                on_yes = (turn >> depth) % 2
                saying = ask(0, yes=saying) if on_yes else ask(0, no=saying)
            self.assertIs(self.told(1, saying), False)

    def test_three_asks_on_every_way_down(self):
        saying = NO
        for depth in range(3):
            saying = ask(0, saying, saying)
            self.assertIs(self.told(3, saying), True)
        self.assertIs(self.told(3, ask(0, saying, saying)), False)

    def test_other_words_and_sizes(self):
        for bad in (
            ("ask", 1), ("Say", 1), ("", 1), (0, 1), (None, 1), ("say",), ("say", 1, 1), ("say", 1, None, 0, YES, NO),
            ("asks", 0, None, 0, YES, NO), ("ask", 0, None, 0, YES), ("ask", 0, None, 0, YES, NO, NO),
            ("ask", 0, None, 0, 1, NO), ("ask", 0, None, 0, YES, 0), ("ask", 0, None, 0, None, NO),
            ("ask", 0, None, None, YES, NO), ("ask", None, None, 0, YES, NO), "say", (), None,
        ):
            self.assertIs(self.told(1, bad), False, bad)


class Rising(Checked):
    def check(self, part, rest):
        """The rows have the key (a kind or a land) and the since ahead of one of two rests, less and more."""
        less, more = rest

        def made(*rows):
            return lands_with(part, tuple(rows), many=3)

        self.good(made((1, 5) + more, (1, 6) + less))
        self.good(made((1, 6) + more, (2, 5) + less))
        self.bad(made((1, 6) + less, (1, 5) + more))
        self.bad(made((2, 5) + less, (1, 6) + more))
        self.bad(made((1, 5) + less, (1, 5) + more))
        self.bad(made((1, 5) + less, (1, 5) + less))
        self.bad(made((1, 4) + less, (1, 6) + less, (1, 5) + less))

    def test_rules(self):
        self.check(RULES, ((0, 1), (1, 0)))

    def test_customs(self):
        self.check(CUSTOMS, ((YES,), (("say", 2),)))

    def test_takes(self):
        self.check(TAKES, ((0,), (1,)))

    def test_reaches(self):
        self.check(REACHES, ((0,), (1,)))

    def test_a_rule_alike_but_for_role_or_way(self):
        self.bad(lands_with(RULES, ((1, 5, 0, 2), (1, 5, 1, 0))))
        self.bad(lands_with(RULES, ((1, 5, 0, 0), (1, 5, 0, 1))))

    def test_heirs_rise_by_since_alone(self):
        less = (((0, 1, None, 0),),)
        more = (((0, 2, None, 0),),)
        self.good(lands_with(HEIRS, ((5, more), (6, less))))
        self.bad(lands_with(HEIRS, ((6, less), (5, more))))
        self.bad(lands_with(HEIRS, ((5, less), (5, more))))
        self.bad(lands_with(HEIRS, ((5, less), (5, less))))

    def test_heirs_and_customs_of_one_since_that_python_cannot_order(self):
        some = (((0, 1, None, 0),),)
        other = (((0, 1, 1, 0),),)
        self.bad(lands_with(HEIRS, ((5, some), (5, other))))
        self.bad(lands_with(CUSTOMS, ((1, 5, ask(0, whose=None)), (1, 5, ask(0, whose=1)))))

    def test_the_same_row_may_stand_in_two_lands(self):
        land = ((ROWS[RULES],), (ROWS[CUSTOMS],), (ROWS[HEIRS],), (), (ROWS[REACHES],))
        self.good((land,) * 5)


class WrongThings(Checked):
    def test_another_thing_in_each_place(self):
        for path in paths(FULL):
            for new in (None, "", "say", "1", [], {}, [0], {0: 0}):
                if new == part_at(FULL, path) or (new is None and path in NONE_PLACES):
                    continue
                self.bad(put_at(FULL, path, new))

    def test_truths_in_each_place(self):
        for path in paths(FULL):
            self.bad(put_at(FULL, path, True))
            self.bad(put_at(FULL, path, False))

    def test_truths_where_they_are_equal_to_a_good_number(self):
        numbers = 0
        for path in paths(FULL):
            number = part_at(FULL, path)
            if type(number) is int and number in (0, 1):
                numbers += 1
                self.bad(put_at(FULL, path, bool(number)))
        self.assertGreater(numbers, 15)

    def test_none_where_it_may_stand(self):
        for path in NONE_PLACES:
            self.good(put_at(FULL, path, None))

    def test_a_list_in_a_tuples_stead_at_each_depth(self):
        depths = set()
        for path in paths(FULL):
            part = part_at(FULL, path)
            if isinstance(part, tuple):
                depths.add(len(path))
                self.bad(put_at(FULL, path, list(part)))
                self.bad(put_at(FULL, path, dict(enumerate(part))))
        self.assertGreaterEqual(max(depths), 5)

    def test_a_part_more_or_less_in_each_row(self):
        land = (0,)
        call = (0, HEIRS, 0, 1, 0, 0)
        ways = [land, call, (0, CUSTOMS, 0, 2), (0, CUSTOMS, 0, 2, 4)] + [(0, part, 0) for part in range(5)]
        for path in ways:
            part = part_at(FULL, path)
            self.bad(put_at(FULL, path, part[:-1]))
            self.bad(put_at(FULL, path, part[1:]))
            self.bad(put_at(FULL, path, ()))
            for more in (None, 0, ()):
                self.bad(put_at(FULL, path, part + (more,)))

    def test_what_is_wrong_is_seen_in_each_land_and_each_row(self):
        for land in range(5):
            self.bad(put_at((EMPTY,) * 5, (land,), ((), (), (), ())))
            self.bad(put_at((EMPTY,) * 5, (land,), None))
        for part, row in ROWS.items():
            since = 0 if part == HEIRS else 1
            rows = tuple(put_at(row, (since,), day) for day in range(12))
            for place in range(12):
                self.bad(lands_with(part, put_at(rows, (place, since), True)))
                self.bad(lands_with(part, put_at(rows, (place,), list(rows[place]))))

    def test_things_of_every_kind(self):
        for thing in things_of_every_kind():
            self.bad(thing)
            self.bad((thing,))
            for part in range(5):
                self.bad(lands_with(part, thing))
                self.bad(lands_with(part, (thing,)))

    def test_things_of_every_kind_deep_within(self):
        for thing in things_of_every_kind():
            for path in ((0, CUSTOMS, 0, 2), (0, CUSTOMS, 0, 2, 4), (0, HEIRS, 0, 1), (0, HEIRS, 0, 1, 1)):
                self.bad(put_at(FULL, path, thing))
            if type(thing) is not int:
                self.bad(put_at(FULL, (0, RULES, 0, 1), thing))

    def test_the_same_call_tells_the_same(self):
        thing = [list(FULL), {"a": FULL}]
        kept = copy.deepcopy(thing)
        for _ in range(3):
            self.good(FULL)
            self.bad(thing)
            self.bad(())
        self.assertEqual(thing, kept)


class InForce(unittest.TestCase):
    """One function for each of the parts whose rows begin with a kind (or another land) and a since."""

    def check(self, look, part, row):
        rows = (row(1, 10), row(2, 0), row(2, 20), row(2, 30), row(2, 30 + 1), row(3, 25), row(3, LAST_DAY))
        lands = put_at((EMPTY,) * 5, (4, part), rows)
        self.assertTrue(are_lands(put_at((EMPTY,) * 5, (0, part), rows)))
        expected = {
            (1, 0): None, (1, 9): None, (1, 10): rows[0], (1, 11): rows[0], (1, LAST_DAY): rows[0],
            (2, 0): rows[1], (2, 1): rows[1], (2, 19): rows[1], (2, 20): rows[2], (2, 21): rows[2],
            (2, 29): rows[2], (2, 30): rows[3], (2, 31): rows[4], (2, 32): rows[4], (2, LAST_DAY): rows[4],
            (3, 0): None, (3, 24): None, (3, 25): rows[5], (3, 26): rows[5], (3, LAST_DAY - 1): rows[5],
            (3, LAST_DAY): rows[6],
            (0, 0): None, (0, LAST_DAY): None,
        }
        for _ in range(2):
            for (key, day), told in expected.items():
                self.assertEqual(look(lands, 4, key, day), told, (key, day))
                self.assertTrue(is_plain(look(lands, 4, key, day)))
                for land in range(4):
                    self.assertIsNone(look(lands, land, key, day))
        self.assertEqual(lands[4][part], rows)

    def test_rules(self):
        self.check(rule_at, RULES, lambda kind, since: (kind, since, since % 3, 2))

    def test_customs(self):
        self.check(custom_at, CUSTOMS, lambda kind, since: (kind, since, ("say", since % 10)))

    def test_reaches(self):
        self.check(reach_at, REACHES, lambda kind, since: (kind, since, since % 3))

    def test_takes(self):
        self.check(take_at, TAKES, lambda other, since: (other, since, since % 2))

    def test_a_later_row_need_not_be_greater_behind_its_since(self):
        lands = (
            (((0, 5, 2, 2), (0, 6, 0, 0)), ((0, 5, ("say", 9)), (0, 6, ("say", 0))), (), (), ((0, 5, 2), (0, 6, 0))),
            ((), (), (), ((0, 5, 1), (0, 6, 0)), ()),
        )
        self.assertTrue(are_lands(lands))
        self.assertEqual(rule_at(lands, 0, 0, 6), (0, 6, 0, 0))
        self.assertEqual(custom_at(lands, 0, 0, 6), (0, 6, ("say", 0)))
        self.assertEqual(reach_at(lands, 0, 0, 6), (0, 6, 0))
        self.assertEqual(take_at(lands, 1, 0, 6), (0, 6, 0))
        self.assertEqual(take_at(lands, 1, 0, 5), (0, 5, 1))

    def test_each_looks_at_its_own_part(self):
        for part, row in ROWS.items():
            lands = lands_with(part, (row,))
            told = {
                RULES: rule_at(lands, 0, 1, 5), CUSTOMS: custom_at(lands, 0, 2, 5), HEIRS: heirs_at(lands, 0, 5),
                TAKES: take_at(lands, 0, 1, 5), REACHES: reach_at(lands, 0, 1, 5),
            }
            self.assertEqual(told, {each: row if each == part else None for each in range(5)})

    def test_heirs(self):
        ranks = [(((role, weight, None, 0),),) for role, weight in ((2, 9), (1, 5), (0, 1), (2, 1))]
        rows = tuple(zip((10, 20, 21, LAST_DAY), ranks))
        lands = (EMPTY, put_at(EMPTY, (HEIRS,), rows))
        self.assertTrue(are_lands(lands))
        expected = {
            0: None, 9: None, 10: rows[0], 11: rows[0], 19: rows[0], 20: rows[1], 21: rows[2], 22: rows[2],
            LAST_DAY - 1: rows[2], LAST_DAY: rows[3],
        }
        for day, told in expected.items():
            self.assertEqual(heirs_at(lands, 1, day), told, day)
            self.assertTrue(is_plain(heirs_at(lands, 1, day)))
            self.assertIsNone(heirs_at(lands, 0, day))
        first = lands_with(HEIRS, ((0, ranks[0]),))
        self.assertEqual(heirs_at(first, 0, 0), (0, ranks[0]))

    def test_what_is_somewhat_beyond_has_no_row(self):
        beyond = ((-1, 1, 5), (-2, 1, 5), (2, 1, 5), (0, -1, 5), (0, 4, 5), (0, 1, -1), (1, 1, LAST_DAY + 1))
        for land, kind, day in beyond:
            for look in (rule_at, custom_at, reach_at, take_at):
                self.assertIsNone(look(FULL, land, kind, day), (land, kind, day))
            self.assertEqual(saying_at(FULL, land, kind, day), NO)
        self.assertIsNone(heirs_at(FULL, -2, 5))
        self.assertIsNone(heirs_at(FULL, 2, 5))
        self.assertIsNone(heirs_at(FULL, 0, -1))

    def test_a_land_below_0_is_not_one_from_the_end(self):
        lands = (EMPTY, FULL[0])
        self.assertIsNotNone(rule_at(lands, 1, 1, 5))
        for look in (rule_at, reach_at, take_at):
            self.assertIsNone(look(lands, -1, 1, 5))
        self.assertIsNone(custom_at(lands, -1, 2, 5))
        self.assertIsNone(heirs_at(lands, -1, 5))
        self.assertEqual(saying_at(lands, -1, 2, 5), NO)


class SayingInForce(unittest.TestCase):
    def test_that_of_the_custom_in_force(self):
        first = ask(1, yes=("say", 7), no=ask(0))
        second = ("say", 9)
        lands = (EMPTY, put_at(EMPTY, (CUSTOMS,), ((2, 10, first), (2, 20, second), (3, 15, YES))))
        self.assertTrue(are_lands(lands))
        expected = {
            (2, 0): NO, (2, 9): NO, (2, 10): first, (2, 11): first, (2, 19): first, (2, 20): second,
            (2, LAST_DAY): second, (3, 14): NO, (3, 15): YES, (1, LAST_DAY): NO, (0, 0): NO,
        }
        for _ in range(2):
            for (kind, day), told in expected.items():
                self.assertEqual(saying_at(lands, 1, kind, day), told, (kind, day))
                self.assertTrue(is_plain(saying_at(lands, 1, kind, day)))
                self.assertEqual(saying_at(lands, 0, kind, day), NO)


if __name__ == "__main__":
    unittest.main()
