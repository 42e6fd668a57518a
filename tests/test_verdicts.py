import copy
import random
import unittest

from plain_rolls import plain_parted, plain_verdicts
from samples import EMPTY, at_once, beside, changes, is_plain, land, part_at, paths, put_at, things_of_every_kind
from whoselaw.facts import held_by, is_book
from whoselaw.lands import are_lands
from whoselaw.rolls import is_roll
from whoselaw.verdicts import holder, parted, verdicts, verdicts_hold
from worlds import FOLK, LAST_WORLD_DAY, full_worlds, shuffled, thrown_roll

LAST_DAY = 10 ** 9
THING, DAY = 60, 50
# Land 0 takes over all of land 1's, land 1 nothing of land 0's; land 2 is by itself.
LANDS = (land(takes=[(1, 0, 1)]), land(takes=[(0, 0, 0)]), EMPTY)


def on_thing(day, winner, loser, court=0, thing=THING):
    return (day, court, thing, winner, loser)


class Checked(unittest.TestCase):
    def words(self, book, roll, land_number=0, day=DAY, lands=LANDS, thing=THING):
        """The verdicts and who holds the thing in the end, compared with a second telling."""
        self.assertTrue(are_lands(lands) and is_book(lands, book) and is_roll(lands, roll))
        told = verdicts(lands, book, roll, land_number, thing, day)
        last = holder(lands, book, roll, land_number, thing, day)
        self.assertEqual((told, last), plain_verdicts(lands, book, roll, land_number, thing, day))
        self.assertTrue(is_plain(told) and is_plain(last))
        self.assertIs(verdicts_hold(lands, book, roll, land_number, thing, day, told), True)
        return told, last


class Words(Checked):
    def test_no_judgment(self):
        self.assertEqual(self.words((), ()), ((), None))
        book = (beside(THING, 3, 1, 10), beside(THING, 3, 2, DAY), beside(THING, 3, 3, DAY + 1))
        self.assertEqual(self.words(book, ()), ((), 2))
        self.assertEqual(self.words(book, (), day=9), ((), None))
        self.assertEqual(self.words((at_once(THING, 3, 0),), ()), ((), None))

    def test_it_binds_where_the_holder_is_winner_or_loser(self):
        book = (beside(THING, 3, 1),)
        self.assertEqual(self.words(book, (on_thing(5, 1, 2),)), (((0, "binds", None),), 1))
        self.assertEqual(self.words(book, (on_thing(5, 2, 1),)), (((0, "binds", None),), 2))

    def test_later(self):
        book = (beside(THING, 3, 1),)
        roll = (on_thing(DAY, 2, 1), on_thing(DAY + 1, 3, 2))
        self.assertEqual(self.words(book, roll), (((0, "binds", None), (1, "later", None)), 2))
        self.assertEqual(self.words(book, roll, day=DAY - 1), (((0, "later", None), (1, "later", None)), 1))
        self.assertEqual(self.words(book, roll, day=DAY + 1), (((0, "binds", None), (1, "binds", None)), 3))
        # Later goes ahead of strange, and of all else.
        roll = (on_thing(5, 2, 1), on_thing(DAY + 1, 2, 1, court=2), on_thing(DAY + 1, 2, 1, thing=61),
                on_thing(DAY + 2, 1, 2), on_thing(DAY + 3, 8, 9))
        told = self.words(book, tuple(sorted(roll)))[0]
        self.assertEqual([word for _, word, _ in told], ["binds", "later", "later", "later"])

    def test_strange(self):
        book = (beside(THING, 3, 1),)
        roll = (on_thing(5, 2, 1, court=2),)
        self.assertEqual(self.words(book, roll), (((0, "strange", None),), 1))
        self.assertEqual(self.words(book, roll, 2), (((0, "binds", None),), 2))
        # Strange goes ahead of settled and of no party.
        roll = (on_thing(5, 2, 1), on_thing(6, 1, 2, court=2), on_thing(7, 8, 9, court=2))
        told, last = self.words(book, roll)
        self.assertEqual(told, ((0, "binds", None), (1, "strange", None), (2, "strange", None)))
        self.assertEqual(last, 2)

    def test_a_strange_one_settles_nothing(self):
        book = (beside(THING, 3, 1),)
        roll = (on_thing(5, 2, 1, court=2), on_thing(6, 2, 1))
        self.assertEqual(self.words(book, roll), (((0, "strange", None), (1, "binds", None)), 2))
        self.assertEqual(self.words(book, roll, 1), (((0, "strange", None), (1, "strange", None)), 1))

    def test_a_judgment_taken_over(self):
        book = (beside(THING, 3, 1),)
        roll = (on_thing(5, 2, 1, court=1), on_thing(6, 3, 2))
        self.assertEqual(self.words(book, roll), (((0, "binds", None), (1, "binds", None)), 3))
        self.assertEqual(self.words(book, roll, 1), (((0, "binds", None), (1, "strange", None)), 2))
        self.assertEqual(self.words(book, roll, 2), (((0, "strange", None), (1, "strange", None)), 1))

    def test_the_take_of_the_judgments_day_counts(self):
        lands = (land(takes=[(1, 5, 1), (1, 8, 0)]), EMPTY)
        book = (beside(THING, 3, 1),)
        for when, word in ((4, "strange"), (5, "binds"), (7, "binds"), (8, "strange")):
            roll = (on_thing(when, 2, 1, court=1),)
            self.assertEqual(self.words(book, roll, lands=lands)[0], ((0, word, None),))

    def test_settled_whoever_won(self):
        book = (beside(THING, 3, 1),)
        for winner, loser in ((1, 2), (2, 1)):
            roll = (on_thing(5, 2, 1), on_thing(6, winner, loser), on_thing(7, loser, winner, court=1))
            told, last = self.words(book, roll)
            self.assertEqual(told, ((0, "binds", None), (1, "settled", 0), (2, "settled", 0)))
            self.assertEqual(last, 2)

    def test_settled_with_the_first_that_binds_the_same_two(self):
        book = (beside(THING, 3, 1),)
        roll = (
            on_thing(1, 2, 9), on_thing(2, 2, 1), on_thing(3, 3, 2), on_thing(4, 1, 3), on_thing(5, 2, 1),
            on_thing(6, 2, 3), on_thing(7, 3, 1), on_thing(8, 9, 1),
        )
        self.assertEqual(self.words(book, roll), ((
            (0, "no party", None), (1, "binds", None), (2, "binds", None), (3, "binds", None), (4, "settled", 1),
            (5, "settled", 2), (6, "settled", 3), (7, "binds", None),
        ), 9))

    def test_settled_also_where_a_fact_came_between(self):
        book = (beside(THING, 3, 1), beside(THING, 3, 1, 7), at_once(THING, 3, 0, 9))
        roll = (on_thing(5, 2, 1), on_thing(8, 2, 1), on_thing(9, 1, 2), on_thing(10, 3, 1))
        self.assertEqual(self.words(book, roll), ((
            (0, "binds", None), (1, "settled", 0), (2, "settled", 0), (3, "no party", None),
        ), None))
        self.assertEqual(self.words(book, roll, day=8)[1], 1)

    def test_one_that_does_not_bind_settles_nothing(self):
        book = (beside(THING, 3, 1, 6),)
        roll = (on_thing(5, 2, 1), on_thing(7, 2, 1), on_thing(8, 1, 2))
        self.assertEqual(self.words(book, roll), (((0, "no party", None), (1, "binds", None), (2, "settled", 1)), 2))

    def test_no_party_where_nobody_holds_it(self):
        roll = (on_thing(5, 2, 1),)
        self.assertEqual(self.words((), roll), (((0, "no party", None),), None))
        self.assertEqual(self.words((beside(THING, 3, 1, 6),), roll), (((0, "no party", None),), 1))
        self.assertEqual(self.words((at_once(THING, 3, 0),), roll), (((0, "no party", None),), None))
        self.assertEqual(self.words((beside(THING, 2, 1),), roll), (((0, "no party", None),), None))

    def test_no_party_where_another_one_holds_it(self):
        roll = (on_thing(5, 2, 1), on_thing(6, 4, 3), on_thing(7, 3, 2))
        book = (beside(THING, 3, 3),)
        self.assertEqual(self.words(book, roll), ((
            (0, "no party", None), (1, "binds", None), (2, "no party", None),
        ), 4))

    def test_a_fact_in_a_land_between(self):
        book = (beside(THING, 3, 1), at_once(THING, 3, 1, 6), beside(THING, 3, 4, 8))
        roll = (on_thing(5, 2, 1), on_thing(6, 3, 2), on_thing(7, 2, 4), on_thing(8, 3, 4))
        self.assertEqual(self.words(book, roll), ((
            (0, "binds", None), (1, "no party", None), (2, "no party", None), (3, "binds", None),
        ), 3))
        self.assertIsNone(self.words(book, roll, day=6)[1])


class Days(Checked):
    def test_a_fact_and_a_judgment_of_one_day(self):
        # The fact first, so the judgment is between 2 and 3, and it is the last.
        book = (beside(THING, 3, 1), beside(THING, 3, 2, 5))
        self.assertEqual(self.words(book, (on_thing(5, 3, 2),)), (((0, "binds", None),), 3))
        self.assertEqual(self.words(book, (on_thing(5, 3, 1),)), (((0, "no party", None),), 2))
        self.assertEqual(self.words(book, (on_thing(4, 3, 1),)), (((0, "binds", None),), 2))
        self.assertEqual(self.words(book, (on_thing(4, 3, 1),), day=4)[1], 3)

    def test_two_judgments_of_one_day(self):
        book = (beside(THING, 3, 1, 5),)
        roll = (on_thing(5, 2, 1), on_thing(5, 3, 2, court=1))
        self.assertEqual(self.words(book, roll), (((0, "binds", None), (1, "binds", None)), 3))
        roll = (on_thing(5, 3, 2), on_thing(5, 2, 1, court=1))
        self.assertEqual(self.words(book, roll), (((0, "no party", None), (1, "binds", None)), 2))
        roll = (on_thing(5, 2, 1), on_thing(5, 1, 2, court=1))
        self.assertEqual(self.words(book, roll), (((0, "binds", None), (1, "settled", 0)), 2))

    def test_the_very_day_and_the_day_behind_it(self):
        book = (beside(THING, 3, 1), beside(THING, 3, 4, DAY + 1))
        for when, told in ((DAY - 1, ("binds", 2)), (DAY, ("binds", 2)), (DAY + 1, ("later", 1))):
            rows, last = self.words(book, (on_thing(when, 2, 1),))
            self.assertEqual((rows[0][1], last), told)

    def test_facts_that_are_later_are_not_gone_through(self):
        book = (beside(THING, 3, 1), beside(THING, 3, 4, 20))
        roll = (on_thing(10, 2, 1),)
        self.assertEqual(self.words(book, roll, day=19)[1], 2)
        self.assertEqual(self.words(book, roll, day=20)[1], 4)

    def test_several_facts_between_two_judgments(self):
        book = tuple(beside(THING, 3, one, day) for day, one in ((0, 1), (6, 7), (7, 8), (9, 1)))
        roll = (on_thing(5, 2, 1), on_thing(8, 9, 8), on_thing(10, 3, 1))
        self.assertEqual(self.words(book, roll), (((0, "binds", None), (1, "binds", None), (2, "binds", None)), 3))

    def test_day_nought_and_the_last_one(self):
        book = (beside(0, 3, 99), beside(0, 3, 98, LAST_DAY))
        roll = (on_thing(0, 1, 99, thing=0), on_thing(LAST_DAY, 97, 98, thing=0))
        self.assertEqual(self.words(book, roll, day=0, thing=0), (((0, "binds", None), (1, "later", None)), 1))
        self.assertEqual(self.words(book, roll, day=LAST_DAY, thing=0)[1], 97)
        self.assertEqual(self.words(book, roll, day=LAST_DAY - 1, thing=0)[1], 1)


class OtherThingsJudged(Checked):
    def test_the_numbers_are_those_of_the_roll(self):
        book = (beside(THING, 3, 1), beside(61, 3, 2))
        roll = (
            on_thing(5, 3, 2, thing=61), on_thing(6, 2, 1), on_thing(6, 1, 2, thing=62), on_thing(7, 1, 3, thing=61),
            on_thing(8, 1, 2), on_thing(9, 3, 2),
        )
        self.assertEqual(self.words(book, roll), (((1, "binds", None), (4, "settled", 1), (5, "binds", None)), 3))
        self.assertEqual(self.words(book, roll, thing=61), (((0, "binds", None), (3, "binds", None)), 1))
        self.assertEqual(self.words(book, roll, thing=62), (((2, "no party", None),), None))
        self.assertEqual(self.words(book, roll, thing=63), ((), None))
        # A thing may be a party in another one's judgment; that is nothing to it.
        self.assertEqual(self.words(book, roll, thing=1), ((), None))

    def test_thirty_judgments(self):
        book = (beside(THING, 3, 0),)
        roll = tuple(on_thing(day, day + 1, day) for day in range(30))
        rows, last = self.words(book, roll)
        self.assertEqual(rows, tuple((number, "binds", None) for number in range(30)))
        self.assertEqual(last, 30)
        roll = tuple(on_thing(day, 1 + day % 2, 2 - day % 2 if day else 0) for day in range(30))
        rows, last = self.words(book, roll)
        self.assertEqual(rows[:3], ((0, "binds", None), (1, "binds", None), (2, "settled", 1)))
        self.assertEqual({row[1:] for row in rows[2:]}, {("settled", 1)})
        self.assertEqual(last, 2)

    def test_thirty_judgments_and_sixty_facts_of_five_lands(self):
        lands = tuple(land(takes=[(other, 0, 1) for other in range(5) if other != number]) for number in range(5))
        book = tuple(beside(99, 3, day % 90, day) for day in range(60))
        roll = tuple((day, day % 5, 99, 95, day % 90) for day in range(0, 60, 2))
        for number in range(5):
            rows, last = self.words(book, roll, number, LAST_DAY, lands, 99)
            self.assertEqual([word for _, word, _ in rows], ["binds"] * 30)
            self.assertEqual(last, 59)
            self.assertEqual(self.words(book, roll, number, 58, lands, 99)[1], 95)


class Parted(unittest.TestCase):
    def parts(self, book, roll, lands=LANDS, day=DAY, thing=THING):
        self.assertTrue(are_lands(lands) and is_book(lands, book) and is_roll(lands, roll))
        told = parted(lands, book, roll, thing, day)
        self.assertEqual(told, plain_parted(lands, book, roll, thing, day))
        self.assertTrue(is_plain(told))
        return told

    def test_none(self):
        self.assertIsNone(self.parts((), ()))
        self.assertIsNone(self.parts((beside(THING, 3, 1),), ()))
        self.assertIsNone(self.parts((beside(THING, 3, 1),), (on_thing(5, 1, 2),)))
        self.assertIsNone(self.parts((beside(THING, 3, 1),), (on_thing(DAY + 1, 2, 1),)))
        self.assertIsNone(self.parts((beside(THING, 3, 1),), (on_thing(5, 2, 1),), lands=(EMPTY,)))

    def test_the_first_two_lands(self):
        book = (beside(THING, 3, 1),)
        self.assertEqual(self.parts(book, (on_thing(5, 2, 1),)), (0, 1))
        # Lands 0 and 1 take it over, land 2 doesn't.
        self.assertEqual(self.parts(book, (on_thing(5, 2, 1, court=1),)), (0, 2))
        self.assertEqual(self.parts(book, (on_thing(5, 2, 1, court=2),)), (0, 2))
        lands = (EMPTY, EMPTY, EMPTY, land(takes=[(4, 0, 1)]), EMPTY)
        self.assertEqual(self.parts(book, (on_thing(5, 2, 1, court=4),), lands), (0, 3))
        self.assertEqual(self.parts(book, (on_thing(5, 2, 1, court=3),), lands), (0, 3))
        self.assertEqual(self.parts(book, (on_thing(5, 2, 1), on_thing(5, 2, 1, court=1)), lands), (0, 2))

    def test_a_holder_0_is_somebody(self):
        book = (beside(THING, 3, 0),)
        self.assertEqual(self.parts(book, (on_thing(5, 1, 0),)), (0, 1))
        self.assertIsNone(self.parts(book, (on_thing(5, 0, 1),)))
        self.assertEqual(holder(LANDS, book, (), 0, THING, DAY), 0)

    def test_nobody_by_one_land_is_nobody_by_all(self):
        """A judgment binds only where somebody holds the thing, so facts alone tell whether anybody does."""
        dice = random.Random(129)
        nobodies = []
        for lands, book in full_worlds(60, 130):
            roll = thrown_roll(dice, len(lands))
            for thing in (1, 6, 7):
                told = {holder(lands, book, roll, number, thing, 4) is None for number in range(len(lands))}
                self.assertEqual(told, {held_by(book, thing, 4) is None})
                nobodies.extend(told)
        self.assertGreater(min(nobodies.count(True), nobodies.count(False)), 20)

    def test_on_another_day_or_thing(self):
        book = (beside(THING, 3, 1), beside(THING, 3, 1, 9))
        roll = (on_thing(5, 2, 1),)
        for day, told in ((4, None), (5, (0, 1)), (8, (0, 1)), (9, None)):
            self.assertEqual(self.parts(book, roll, day=day), told)
        self.assertIsNone(self.parts(book, roll, thing=61))

    def test_many_worlds(self):
        dice = random.Random(121)
        found = set()
        for lands, book in full_worlds(120, 122):
            roll = thrown_roll(dice, len(lands))
            for thing in (1, 6, 7):
                found.add(self.parts(book, roll, lands, dice.randrange(5), thing))
        self.assertGreater(len(found), 4)
        self.assertIn(None, found)


class ManyWorlds(Checked):
    def test_as_the_second_telling_tells(self):
        dice = random.Random(123)
        words = []
        for lands, book in full_worlds(150, 124):
            roll = thrown_roll(dice, len(lands))
            for number in range(len(lands)):
                for thing in (1, 6, 7):
                    rows, _ = self.words(book, roll, number, dice.randrange(LAST_WORLD_DAY + 1), lands, thing)
                    words.extend(word for _, word, _ in rows)
        self.assertEqual(set(words), {"later", "strange", "settled", "no party", "binds"})
        self.assertGreater(min(words.count(word) for word in set(words)), 30)

    def test_without_judgments_it_is_the_one_who_holds_it(self):
        for lands, book in full_worlds(30, 125):
            for thing in range(FOLK):
                for day in range(LAST_WORLD_DAY + 1):
                    self.assertEqual(holder(lands, book, (), 0, thing, day), held_by(book, thing, day))

    def test_asked_again_behind_others_it_tells_the_same(self):
        dice = random.Random(126)
        calls = []
        for lands, book in full_worlds(20, 127):
            roll = thrown_roll(dice, len(lands))
            calls += [(lands, book, roll, number, 6, 4) for number in range(len(lands))]
        kept = copy.deepcopy(calls)
        first = [(verdicts(*call), holder(*call), parted(*call[:3], *call[4:])) for call in calls]
        for place in shuffled(len(calls), 128):
            call = calls[place]
            self.assertEqual((verdicts(*call), holder(*call), parted(*call[:3], *call[4:])), first[place])
        self.assertEqual(calls, kept)


# Each of the five words, and judgments on another thing between.
BOOK = (beside(THING, 3, 1), beside(61, 3, 5))
ROLL = (
    on_thing(1, 2, 1), on_thing(2, 6, 5, thing=61), on_thing(3, 2, 1, court=2), on_thing(4, 1, 2),
    on_thing(5, 3, 2), on_thing(6, 1, 2, court=1), on_thing(7, 8, 9), on_thing(60, 1, 3),
)
TOLD = (
    (0, "binds", None), (2, "strange", None), (3, "settled", 0), (4, "binds", None), (5, "settled", 0),
    (6, "no party", None), (7, "later", None),
)


class Checker(unittest.TestCase):
    def holds(self, thing, land_number=0, one=THING, day=DAY, book=BOOK, roll=ROLL):
        return verdicts_hold(LANDS, book, roll, land_number, one, day, thing)

    def bad(self, thing):
        if self.holds(thing) is not False:
            self.fail(repr(thing)[:500])

    def test_it_holds(self):
        self.assertTrue(is_book(LANDS, BOOK) and is_roll(LANDS, ROLL))
        self.assertEqual(verdicts(LANDS, BOOK, ROLL, 0, THING, DAY), TOLD)
        self.assertIs(self.holds(TOLD), True)
        self.assertIs(self.holds(copy.deepcopy(TOLD)), True)
        self.assertIs(self.holds((), one=99), True)

    def test_any_one_part_put_otherwise(self):
        for changed in changes(TOLD):
            self.bad(changed)

    def test_truths_where_a_number_is_due(self):
        for path in paths(TOLD):
            number = part_at(TOLD, path)
            if type(number) is int and number in (0, 1):
                self.bad(put_at(TOLD, path, bool(number)))

    def test_a_row_gone_twice_or_exchanged(self):
        for place in range(len(TOLD)):
            self.bad(TOLD[:place] + TOLD[place + 1:])
            self.bad(TOLD[:place] + TOLD[place:place + 1] + TOLD[place:])
            for other in range(place):
                changed = list(TOLD)
                changed[place], changed[other] = changed[other], changed[place]
                self.bad(tuple(changed))
        self.bad(TOLD[::-1])
        self.bad(TOLD + ((8, "later", None),))
        self.bad(TOLD + ((1, "strange", None),))

    def test_things_of_every_kind(self):
        for thing in things_of_every_kind() + [()]:
            self.bad(thing)
            self.bad((thing,))
            self.bad(TOLD + (thing,))
            for path in paths(TOLD):
                changed = put_at(TOLD, path, thing)
                if repr(changed) != repr(TOLD):
                    self.bad(changed)
            self.assertIs(self.holds(thing, one=99), thing == () and type(thing) is tuple)

    def test_verdicts_that_are_right_elsewhere(self):
        calls = [(number, one, day) for number in range(3) for one in (THING, 61, 62) for day in (0, 1, 4, DAY, 60)]
        told = {call: plain_verdicts(LANDS, BOOK, ROLL, *call)[0] for call in calls}
        for call in calls:
            for other in calls:
                self.assertIs(self.holds(told[other], *call), told[call] == told[other])
        for place in range(len(ROLL)):
            roll = ROLL[:place] + ROLL[place + 1:]
            alike = plain_verdicts(LANDS, BOOK, roll, 0, THING, DAY)[0] == TOLD
            self.assertIs(self.holds(TOLD, roll=roll), alike)
        for book in ((), BOOK[1:], BOOK[:1], (beside(THING, 3, 2),)):
            alike = plain_verdicts(LANDS, book, ROLL, 0, THING, DAY)[0] == TOLD
            self.assertIs(self.holds(TOLD, book=book), alike)

    def test_what_was_handed_in_stays(self):
        thing = [list(row) for row in TOLD]
        kept = copy.deepcopy(thing)
        self.bad(thing)
        self.bad(tuple(thing))
        self.assertEqual(thing, kept)


if __name__ == "__main__":
    unittest.main()
