import copy
import itertools
import unittest

from plain_opens import fillings, plain_view_holds
from plain_settling import all_numbers, known_in, leaves, others_at, plain_answers, plain_settles, rows_due
from samples import ask, asking_most, at_once, beside, is_plain, land, put_at, say
from whoselaw.facts import is_book
from whoselaw.lands import are_lands
from whoselaw.opens import is_opens
from whoselaw.settlepaper import settling_holds
from whoselaw.settling import settles, settling
from worlds import shuffled, thrown_hangings

LAST_DAY = 10 ** 9
WHO, DAY = 5, 10
NOWHERE = ("no",)
QUESTION = (1, WHO, DAY)
COURT_WAY = 2

# Where role 0 is with somebody, or roles 1 and 2 both are, the answer is 3, else 4.
EITHER = ask(0, say(3), ask(0, ask(0, say(3), say(4), 2), say(4), 1), 0)
# Where just one of roles 0 and 1 is with somebody, it is 3, else 4.
JUST_ONE = ask(0, ask(0, say(4), say(3), 1), ask(0, say(3), say(4), 1), 0)
YES = (0, 0, say(1))
LANDS = (
    land([], [YES, (1, 0, EITHER)]),
    land([], [YES, (1, 0, JUST_ONE)]),
    land([], [YES, (1, 0, say(3))]),
    land([(1, 0, 0, COURT_WAY)], [YES, (1, 0, say(6))]),
)
# Facts of the opens' pairs are nothing to it, of whatever day.
BOOK = (at_once(WHO, 0, 0), at_once(WHO, 1, 0, DAY), beside(WHO, 2, 7, DAY + 1), at_once(7, 0, 1))
AWAY, WITH = ("in", 0), ("with", 6)
OPENS = tuple((WHO, role, (AWAY, WITH)) for role in range(3))
ALL_WITH = (WITH, WITH, WITH)


class Checked(unittest.TestCase):
    def call(self, court=0, filling=ALL_WITH, opens=OPENS, question=QUESTION, lands=LANDS, book=BOOK):
        self.assertTrue(are_lands(lands) and is_book(lands, book) and is_opens(lands, opens))
        self.assertIn(filling, fillings(opens))
        return lands, book, question, court, opens, filling

    def rows(self, *args, **more):
        """The numbers of the least rows and of the most that are told, all else looked through."""
        return self.looked_through(self.call(*args, **more))

    def looked_through(self, call):
        lands, book, question, court, opens, filling = call
        told = settling(*call)
        self.assertTrue(is_plain(told))
        self.assertIs(settling_holds(*call, told), True)
        least, most = told
        due = rows_due(*call)
        self.assertEqual(([row[0] for row in least], [row[0] for row in most]), due)
        answer = plain_answers(lands, book, question, court, opens)[filling]
        for numbers, telling, view in least:
            known = known_in(filling, numbers)
            self.assertEqual(telling, answer)
            self.assertTrue(plain_view_holds(lands, book, question, (court,), opens, known, view))
            self.assertEqual(set(leaves(view)), {answer})
        for numbers, other in most:
            self.assertIn(other, others_at(*call, numbers))
        return due

    def settled(self, call):
        """The rows of numbers that are told to settle, each looked through by all fillings."""
        found = []
        for numbers in all_numbers(len(call[4])):
            told = settles(*call, numbers)
            self.assertIs(told, plain_settles(*call, numbers))
            if told:
                found.append(numbers)
        return found


class Settles(Checked):
    def test_no_number_all_each_alone_and_all_but_one(self):
        call = self.call()
        self.assertEqual(self.settled(call), [(0,), (0, 1), (0, 1, 2), (0, 2), (1, 2)])
        self.assertIs(settles(*call, ()), False)
        self.assertIs(settles(*call, (0, 1, 2)), True)

    def test_of_every_filling_and_court(self):
        for court in range(4):
            for filling in fillings(OPENS):
                rows = self.settled(self.call(court, filling))
                self.assertIn((0, 1, 2), rows)
                self.assertIs(() in rows, court == 2)

    def test_of_other_fillings(self):
        self.assertEqual(self.settled(self.call(0, (AWAY, AWAY, WITH))), [(0, 1), (0, 1, 2)])
        self.assertEqual(self.settled(self.call(0, (AWAY, AWAY, AWAY))), [(0, 1), (0, 1, 2), (0, 2)])
        self.assertEqual(self.settled(self.call(0, (AWAY, WITH, WITH))), [(0, 1, 2), (1, 2)])
        self.assertEqual(self.settled(self.call(1)), [(0, 1), (0, 1, 2)])

    def test_opens_at_which_the_court_does_not_look(self):
        opens = OPENS + ((8, 3, (NOWHERE, ("with", 1))),)
        rows = self.settled(self.call(filling=ALL_WITH + (NOWHERE,), opens=opens))
        self.assertEqual(rows, sorted(row + more for row in [(0,), (0, 1), (0, 1, 2), (0, 2), (1, 2)]
                                      for more in ((), (3,))))
        opens = ((8, 0, (AWAY, WITH)), (8, 3, (NOWHERE, ("with", 1))))
        for filling in fillings(opens):
            self.assertEqual(self.settled(self.call(filling=filling, opens=opens)), all_numbers(2))

    def test_an_open_of_one_option(self):
        opens = OPENS[:2] + ((WHO, 2, (WITH,)),)
        self.assertEqual(self.settled(self.call(opens=opens)), [(0,), (0, 1), (0, 1, 2), (0, 2), (1,), (1, 2)])
        opens = tuple((who, role, (option,)) for (who, role, _), option in zip(OPENS, ALL_WITH))
        self.assertEqual(self.settled(self.call(opens=opens)), all_numbers(3))

    def test_no_opens(self):
        for court in range(4):
            self.assertIs(settles(*self.call(court, (), ()), ()), True)

    def test_books_are_filled_on_the_questions_day(self):
        for day in (0, DAY, DAY + 1, LAST_DAY):
            call = self.call(question=(1, WHO, day))
            self.assertEqual(self.settled(call), [(0,), (0, 1), (0, 1, 2), (0, 2), (1, 2)])

    def test_where_an_open_leads_to_another_court(self):
        # Land 3 asks by role 0: land 0's custom goes by roles 1 and 2 then, land 1's by role 1, land 2's by none.
        opens = ((WHO, 0, (("in", 0), ("in", 1), ("in", 2), NOWHERE)),) + OPENS[1:]
        due = {0: [(0, 1, 2)], 1: [(0, 1), (0, 1, 2)], 2: [(0,), (0, 1), (0, 1, 2), (0, 2)]}
        for place, rows in due.items():
            self.assertEqual(self.settled(self.call(3, (("in", place), WITH, WITH), opens)), rows)

    def test_many_worlds(self):
        found = []
        for call in thrown_hangings(200, 201, 16):
            rows = self.settled(call)
            found.append((len(rows) < len(all_numbers(len(call[4]))), len(rows) > 1))
        self.assertGreater(found.count((True, True)), 25)

    def test_asked_again_behind_others_it_tells_the_same(self):
        calls = []
        for call in thrown_hangings(30, 203, 16):
            calls += [call + (numbers,) for numbers in all_numbers(len(call[4]))]
        kept = copy.deepcopy(calls)
        first = [settles(*call) for call in calls]
        for place in shuffled(len(calls), 205):
            self.assertIs(settles(*calls[place]), first[place])
        self.assertEqual(calls, kept)


class Settling(Checked):
    def test_several_least_rows_of_unlike_length(self):
        self.assertEqual(self.rows(), ([(0,), (1, 2)], [(1,), (2,)]))

    def test_of_every_filling_and_court(self):
        for court in range(4):
            for filling in fillings(OPENS):
                self.rows(court, filling)

    def test_where_the_empty_row_settles(self):
        self.assertEqual(self.rows(2), ([()], []))
        least, most = settling(*self.call(2))
        self.assertEqual((least[0][:2], most), (((), 3), ()))
        # Land 0's court looks at none of these.
        opens = ((8, 0, (AWAY, WITH)), (8, 3, (NOWHERE, ("with", 1))))
        self.assertEqual(self.rows(0, (AWAY, NOWHERE), opens), ([()], []))

    def test_where_only_the_row_of_all_numbers_does(self):
        opens = OPENS[:2]
        for filling in fillings(opens):
            self.assertEqual(self.rows(1, filling, opens), ([(0, 1)], [(0,), (1,)]))
        self.assertEqual(self.rows(0, (AWAY, WITH, WITH)), ([(1, 2)], [(0, 1), (0, 2)]))
        self.assertEqual(self.rows(0, (AWAY, WITH, AWAY)), ([(0, 2)], [(0, 1), (1, 2)]))

    def test_no_opens(self):
        for court, answer in ((0, 4), (2, 3)):
            self.assertEqual(self.rows(court, (), ()), ([()], []))
            least, most = settling(*self.call(court, (), ()))
            self.assertEqual((least[0][:2], least[0][2][0], most), (((), answer), "told", ()))

    def test_an_open_of_one_option_is_in_every_most_and_in_no_least(self):
        opens = OPENS[:2] + ((WHO, 2, (WITH,)),)
        self.assertEqual(self.rows(opens=opens), ([(0,), (1,)], [(2,)]))
        opens = tuple((who, role, (option,)) for (who, role, _), option in zip(OPENS, ALL_WITH))
        self.assertEqual(self.rows(opens=opens), ([()], []))

    def test_opens_at_which_the_court_does_not_look(self):
        opens = ((1, 0, (AWAY, WITH)),) + OPENS + ((8, 3, (NOWHERE, ("with", 1))),)
        told = self.rows(0, (AWAY,) + ALL_WITH + (NOWHERE,), opens)
        self.assertEqual(told, ([(1,), (2, 3)], [(0, 2, 4), (0, 3, 4)]))

    def test_an_open_that_is_looked_at_and_does_not_matter(self):
        # Whatever role 0 is, the saying behind is alike.
        lands = put_at(LANDS, (0, 1, 1, 2), ask(0, say(3), say(3), 0))
        self.assertEqual(self.rows(lands=lands), ([()], []))

    def test_many_worlds(self):
        found = []
        for call in thrown_hangings(600, 207, 24):
            least, most = self.looked_through(call)
            found.append((len(least), len(most), max(map(len, least))))
        self.assertGreater(len([row for row in found if row[0] > 1]), 5)
        self.assertGreater(len([row for row in found if row[1] > 1]), 10)
        self.assertGreater(len([row for row in found if row[2] > 1]), 10)

    def test_asked_again_behind_others_it_tells_the_same(self):
        calls = thrown_hangings(60, 209, 32)
        kept = copy.deepcopy(calls)
        first = [settling(*call) for call in calls]
        for place in shuffled(len(calls), 211):
            self.assertEqual(settling(*calls[place]), first[place])
            self.assertIs(settling_holds(*calls[place], first[place]), True)
        self.assertEqual(calls, kept)


class Bounds(Checked):
    def test_sixty_four_fillings_and_five_opens(self):
        customs = asking_most()
        customs[3] = (3, 0, ask(2, ask(2, ask(2, say(1), say(2), 3), say(3), 2), say(4), 1))
        lands = tuple(land([(3, 0, number % 3, COURT_WAY)], customs) for number in range(5))
        question = (3, 0, LAST_DAY)
        two = (("in", 0), ("with", 98))
        four = (("in", 0), ("in", 4), ("with", 98), ("with", 99))
        book = tuple(beside(who, 0, who + 1, LAST_DAY) for who in range(1, 51))
        for opens in (
            tuple((0, role, four) for role in range(1, 4)),
            tuple((0, role, two) for role in range(4)) + ((99, 0, two),),
            tuple((0, role, two) for role in range(4)) + ((99, 0, (("in", 0), ("in", 4), NOWHERE, ("with", 98))),),
        ):
            for filling in (fillings(opens)[0], fillings(opens)[-1]):
                self.rows(4, filling, opens, question, lands, book)
                call = self.call(4, filling, opens, question, lands, book)
                self.assertIs(settles(*call, ()), plain_settles(*call, ()))
        self.assertEqual(len(fillings(opens)), 64)

    def test_the_first_and_the_last_day_and_ones(self):
        for day in (0, LAST_DAY):
            for who, other in ((0, 99), (99, 0)):
                opens = tuple((who, role, (AWAY, ("with", other))) for role in range(3))
                for filling in fillings(opens):
                    told = self.rows(0, filling, opens, (1, who, day))
                    place = [filling[role] == AWAY for role in range(3)]
                    like = tuple(AWAY if away else WITH for away in place)
                    self.assertEqual(told, self.rows(0, like))

    def test_five_opens_of_two_on_all_of_which_the_answer_hangs(self):
        # It is 7 only where each of them is as in the first filling.
        customs = [YES, (1, 0, ask(0, ask(0, say(1), say(0), 3), say(0), 0)),
                   (3, 0, ask(0, ask(0, ask(1, say(7), say(8), 2), say(8), 1), say(8), 0))]
        lands = (land([], customs),)
        first, away = ("with", 6), ("with", 98)
        opens = tuple((WHO, role, (NOWHERE, first)) for role in range(2)) + ((WHO, 2, (first, away)),)
        opens += tuple((6, role, (NOWHERE, ("with", 99))) for role in (0, 3))
        yes = (first,) * 3 + (("with", 99),) * 2
        told = self.rows(0, yes, opens, (3, WHO, DAY), lands, ())
        self.assertEqual(told, ([(0, 1, 2, 3, 4)], sorted(itertools.combinations(range(5), 4))))
        told = self.rows(0, (NOWHERE, NOWHERE, away) + yes[3:], opens, (3, WHO, DAY), lands, ())
        self.assertEqual(told, ([(0,), (1,), (2,)], [(3, 4)]))
        self.assertIs(settles(lands, (), (3, WHO, DAY), 0, opens, yes, (0, 1, 2, 3)), False)
        self.assertIs(settles(lands, (), (3, WHO, DAY), 0, opens, yes, (0, 1, 2, 3, 4)), True)


if __name__ == "__main__":
    unittest.main()
