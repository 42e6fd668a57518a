import copy
import itertools
import random
import unittest

from plain_opens import all_views, fillings
from plain_settling import (
    all_numbers, all_settlings, known_in, others_at, plain_answers, plain_settles, plain_settling_holds, rows_due,
    thrown_settling,
)
from samples import (
    ask, at_once, changes, land, nest, part_at, paths, put_at, say, things_of_every_kind, thrown_changes,
)
from whoselaw.facts import is_book
from whoselaw.lands import are_lands
from whoselaw.opens import is_opens
from whoselaw.settlepaper import settling_holds
from whoselaw.settling import settling
from worlds import thrown_hangings

LAST_DAY = 10 ** 9
WHO, DAY = 5, 10
NOWHERE = ("no",)
QUESTION = (1, WHO, DAY)

YES = (0, 0, say(1))
# Where role 0 is with somebody, or roles 1 and 2 both are, land 0 says 1, else 0; where both or none of roles 0
# and 1 are, land 1 says 0, else 1; land 2 says 1.
EITHER = ask(0, say(1), ask(0, ask(0, say(1), say(0), 2), say(0), 1), 0)
JUST_ONE = ask(0, ask(0, say(0), say(1), 1), ask(0, say(1), say(0), 1), 0)
LANDS = tuple(land([], [YES, (1, 0, saying)]) for saying in (EITHER, JUST_ONE, say(1)))
BOOK = (at_once(WHO, 0, 0), at_once(7, 0, 1))
AWAY, WITH = ("in", 0), ("with", 6)
OPENS = tuple((WHO, role, (AWAY, WITH)) for role in range(3))
ALL_WITH = (WITH, WITH, WITH)


def call_of(court=0, filling=ALL_WITH, opens=OPENS, question=QUESTION, lands=LANDS, book=BOOK):
    return lands, book, question, court, opens, filling


CALL = call_of()
PAPER = settling(*CALL)


class Checked(unittest.TestCase):
    def good(self, thing, call=CALL):
        self.assertIs(settling_holds(*call, thing), True)

    def bad(self, thing, call=CALL):
        # Large things are shown only where they are to blame.
        if settling_holds(*call, thing) is not False:
            self.fail((repr(call[3:])[:300], repr(thing)[:500]))

    def as_due(self, thing, call=CALL):
        told = settling_holds(*call, thing)
        if told is not plain_settling_holds(*call, thing):
            self.fail((told, repr(call[3:])[:300], repr(thing)[:500]))
        return told


class RightPapers(Checked):
    def test_what_it_is_tried_on(self):
        self.assertTrue(are_lands(LANDS) and is_book(LANDS, BOOK) and is_opens(LANDS, OPENS))
        self.assertEqual(rows_due(*CALL), ([(0,), (1, 2)], [(1,), (2,)]))

    def test_every_view_and_every_other_filling(self):
        papers = list(all_settlings(*CALL))
        self.assertGreater(len(papers), 5)
        self.assertIn(PAPER, papers)
        for paper in papers:
            self.good(paper)
            self.good(copy.deepcopy(paper))

    def test_of_every_filling_and_court(self):
        for court in range(3):
            for filling in fillings(OPENS):
                call = call_of(court, filling)
                for paper in itertools.islice(all_settlings(*call), 200):
                    self.good(paper, call)

    def test_views_that_are_split_at_more_than_is_wanted(self):
        call = call_of(2)
        views = all_views(LANDS, BOOK, QUESTION, (2,), OPENS, ())
        self.assertGreater(len(views), 10)
        self.assertIn("split", [view[0] for view in views])
        for view in views:
            self.good(((((), 1, view),), ()), call)

    def test_no_opens(self):
        for court in range(3):
            call = call_of(court, (), ())
            papers = list(all_settlings(*call))
            self.assertEqual(len(papers), 1)
            self.good(papers[0], call)
            self.bad(((), ()), call)
            self.bad(((), papers[0][0]), call)
            self.bad((papers[0][0], (((), ()),)), call)
            self.bad(((), (((), ()),)), call)

    def test_of_many_worlds(self):
        dice = random.Random(220)
        found = set()
        for call in thrown_hangings(150, 221, 16):
            for _ in range(8):
                paper = thrown_settling(dice, *call)
                found.add(paper)
                self.good(paper, call)
        self.assertGreater(len(found), 500)


class OtherPapers(Checked):
    def test_a_row_left_out_twice_or_exchanged(self):
        for court, filling in itertools.product(range(3), fillings(OPENS)):
            call = call_of(court, filling)
            paper = settling(*call)
            for part in (0, 1):
                rows = paper[part]
                for place, row in enumerate(rows):
                    self.bad(put_at(paper, (part,), rows[:place] + rows[place + 1:]), call)
                    self.bad(put_at(paper, (part,), rows[:place] + (row,) + rows[place:]), call)
                    self.bad(put_at(paper, (part,), rows + (row,)), call)
                    self.bad(put_at(paper, (part,), (row,) + rows), call)
                    for other in paper[1 - part]:
                        self.bad(put_at(paper, (part, place), other), call)
                        self.bad(put_at(paper, (part,), rows + (other,)), call)
                for turned in itertools.permutations(rows):
                    if turned != rows:
                        self.bad(put_at(paper, (part,), turned), call)
            self.bad(paper[::-1], call)
            self.bad((paper[0], paper[0]), call)
            self.bad((paper[1], paper[1]), call)
            self.bad(((), paper[1]), call)
            self.bad(((), ()), call)

    def test_a_row_more_that_settles_or_does_not(self):
        """A row with a right view that has another one's numbers and more, and a right other filling with fewer."""
        for filling in fillings(OPENS):
            call = call_of(0, filling)
            least, most = settling(*call)
            answer = plain_answers(*call[:5])[filling]
            for numbers in all_numbers(3):
                if plain_settles(*call, numbers):
                    views = all_views(LANDS, BOOK, QUESTION, (0,), OPENS, known_in(filling, numbers))
                    rows = {**{row[0]: row for row in least}, numbers: (numbers, answer, views[0])}
                    told = self.as_due((tuple(rows[key] for key in sorted(rows)), most), call)
                    self.assertIs(told, len(rows) == len(least))
                else:
                    rows = {**{row[0]: row for row in most}, numbers: (numbers, others_at(*call, numbers)[0])}
                    told = self.as_due((least, tuple(rows[key] for key in sorted(rows))), call)
                    self.assertIs(told, len(rows) == len(most))

    def test_the_row_of_all_numbers_in_the_least_ones_stead(self):
        view = all_views(LANDS, BOOK, QUESTION, (0,), OPENS, known_in(ALL_WITH, (0, 1, 2)))[0]
        self.bad(((((0, 1, 2), 1, view),), PAPER[1]))
        # Then all rows of two are told to turn it, with fillings in which some do not.
        for others in itertools.product(fillings(OPENS), repeat=3):
            most = tuple(zip([(0, 1), (0, 2), (1, 2)], others))
            self.bad(((((0, 1, 2), 1, view),), most))

    def test_papers_of_other_fillings_and_courts(self):
        calls = [call_of(court, filling) for court in range(3) for filling in fillings(OPENS)]
        papers = [settling(*call) for call in calls]
        told = [self.as_due(paper, call) for paper in papers for call in calls]
        self.assertGreater(told.count(True), 20)
        self.assertGreater(told.count(False), 200)

    def test_a_row_put_in_from_another_fillings_settling(self):
        told = []
        for low, high in itertools.permutations(fillings(OPENS), 2):
            call = call_of(0, low)
            paper, other = settling(*call), settling(*call_of(0, high))
            for part in (0, 1):
                for place, row in itertools.product(range(len(paper[part])), other[part]):
                    told.append(self.as_due(put_at(paper, (part, place), row), call))
        self.assertGreater(told.count(False), 100)

    def test_another_answer(self):
        for filling in fillings(OPENS):
            call = call_of(0, filling)
            paper = settling(*call)
            for place in range(len(paper[0])):
                answer = paper[0][place][1]
                for other in (0, 1, 2, 9, -1, None, True, False, "1", (answer,), [answer], bool(answer)):
                    if repr(other) != repr(answer):
                        self.bad(put_at(paper, (0, place, 1), other), call)

    def test_a_view_of_another_row_or_court(self):
        told = []
        for numbers in all_numbers(3):
            for court in range(3):
                for view in all_views(LANDS, BOOK, QUESTION, (court,), OPENS, known_in(ALL_WITH, numbers))[:20]:
                    for place in (0, 1):
                        told.append(self.as_due(put_at(PAPER, (0, place, 2), view)))
        self.assertGreater(min(told.count(True), told.count(False)), 5)

    def test_a_view_in_which_an_answer_is_another_one(self):
        # Right views of rows that do not settle it.
        for numbers in ((), (1,), (2,)):
            for view in all_views(LANDS, BOOK, QUESTION, (0,), OPENS, known_in(ALL_WITH, numbers))[:20]:
                self.bad((((numbers, 1, view),), ()))
                self.bad((((numbers, 1, view),), PAPER[1]))

    def test_an_other_that_is_not_alike_there_or_has_the_same_answer(self):
        told = []
        for filling in fillings(OPENS):
            call = call_of(0, filling)
            paper = settling(*call)
            for place in range(len(paper[1])):
                for other in fillings(OPENS):
                    told.append(self.as_due(put_at(paper, (1, place, 1), other), call))
                for other in ((), filling, filling[:2], filling + filling[:1], list(filling), None, (NOWHERE,) * 3,
                              (("with", 7),) * 3, (("in", True),) * 3, (("in", False), WITH, WITH)):
                    self.bad(put_at(paper, (1, place, 1), other), call)
        self.assertGreater(min(told.count(True), told.count(False)), 10)

    def test_an_other_with_an_option_that_nothing_looks_at(self):
        opens = OPENS + ((8, 3, (NOWHERE, ("with", 1))),)
        call = call_of(0, ALL_WITH + (NOWHERE,), opens)
        paper = settling(*call)
        self.good(paper, call)
        self.assertIn(3, paper[1][0][0])
        for option in (("with", 1), ("with", True), ("with", 2), ("in", 0), ("no", 0), (), None, ["no"], "no"):
            self.bad(put_at(paper, (1, 0, 1, 3), option), call)

    def test_any_one_part_put_otherwise_at_any_depth(self):
        papers = list(all_settlings(*CALL))
        for paper in (papers[0], papers[-1]):
            for changed in changes(paper):
                self.as_due(changed)
        for court, filling, opens in ((1, ALL_WITH[:2], OPENS[:2]), (2, (AWAY,), OPENS[:1]), (0, (), ())):
            call = call_of(court, filling, opens)
            for changed in changes(settling(*call)):
                self.as_due(changed, call)

    def test_truths_where_a_number_is_due(self):
        changed = 0
        for court, filling in itertools.product(range(3), fillings(OPENS)):
            call = call_of(court, filling)
            paper = settling(*call)
            for path in paths(paper):
                number = part_at(paper, path)
                if type(number) is int and number in (0, 1):
                    changed += 1
                    self.bad(put_at(paper, path, bool(number)), call)
        self.assertGreater(changed, 200)

    def test_numbers_that_no_open_has(self):
        for path in ((0, 0, 0), (0, 1, 0), (1, 0, 0), (1, 1, 0)):
            for numbers in ((3,), (-1,), (0, 3), (-3,), (10 ** 59,), (1, 1), (2, 1), (0, 0), (0, 1, 2, 3), [0], [1],
                            (True,), (False,), (None,), ("0",), 0, 1, None, ((0,),), (0, True), (0, "x"), (0, ())):
                self.bad(put_at(PAPER, path, numbers))

    def test_parts_in_one_anothers_place(self):
        parts = sorted({part_at(PAPER, path) for path in paths(PAPER)}, key=repr)
        dice = random.Random(223)
        for path in paths(PAPER):
            for new in dice.sample(parts, min(len(parts), 15)):
                self.as_due(put_at(PAPER, path, new))

    def test_of_many_worlds(self):
        dice = random.Random(225)
        told = []
        for call in thrown_hangings(150, 226, 16):
            paper = settling(*call)
            for changed in thrown_changes(dice, paper, 40):
                told.append(self.as_due(changed, call))
        self.assertGreater(told.count(False), 3000)


class OtherThings(Checked):
    def test_in_the_papers_place(self):
        least, most = PAPER
        for thing in things_of_every_kind() + [()]:
            for made in (thing, (thing,), (thing, thing), (least, thing), (thing, most), (least, most, thing),
                         ((thing,), most), (least, (thing,)), (least + (thing,), most), (least, most + (thing,)),
                         ((thing,) + least, most), (least, (thing,) + most), ((thing,) * 2, (thing,) * 2)):
                if made != PAPER:
                    self.bad(made)
        for call in (call_of(2), call_of(0, (), ())):
            for thing in things_of_every_kind():
                self.bad(thing, call)
                self.bad((thing, ()), call)
                self.bad((settling(*call)[0], thing), call)

    def test_in_each_place_of_a_paper(self):
        things = things_of_every_kind()
        shown = repr(PAPER)
        for path in paths(PAPER):
            for thing in things:
                changed = put_at(PAPER, path, thing)
                if repr(thing) != repr(part_at(PAPER, path)) and repr(changed) != shown:
                    self.bad(changed)

    def test_large_and_deep_things_with_a_right_beginning(self):
        least, most = PAPER
        self.bad((least * 300, most))
        self.bad((least, most * 3000))
        self.bad(PAPER * 300)
        view = least[0][2]
        self.bad(put_at(PAPER, (0, 0, 2), nest(18, lambda inner: ("split", 1, (inner, inner[:1])), view)))
        self.bad(put_at(PAPER, (0, 0, 2), nest(18, lambda inner: ("split", 1, (view, inner)), view)))
        self.bad((tuple((numbers, 1, view) for numbers in all_numbers(9)), most))

    def test_what_was_handed_in_stays(self):
        thing = [list(PAPER[0]), {"a": PAPER[1]}]
        kept = copy.deepcopy(thing)
        for made in (thing, tuple(thing), (PAPER[0], thing[1])):
            self.bad(made)
        self.assertEqual(thing, kept)


class Bounds(Checked):
    def test_five_opens_of_two_and_sixty_four_fillings(self):
        customs = [YES, (1, 0, ask(0, ask(0, say(1), say(0), 3), say(0), 0)),
                   (3, 0, ask(0, ask(0, ask(1, say(7), say(8), 2), say(8), 1), say(8), 0))]
        lands = (land([], customs),) * 5
        first = ("with", 99)
        question = (3, 0, LAST_DAY)
        book = tuple((who, 0, LAST_DAY, ("in", 4)) for who in range(1, 51))
        for last in ((NOWHERE, ("with", 98)), (("in", 0), ("in", 4), NOWHERE, ("with", 98))):
            opens = tuple((0, role, (("in", 4), first)) for role in range(3))
            opens += ((99, 0, (NOWHERE, ("with", 98))), (99, 3, last))
            call = call_of(4, (first,) * 3 + (("with", 98),) * 2, opens, question, lands, book)
            self.assertTrue(are_lands(lands) and is_book(lands, book) and is_opens(lands, opens))
            self.assertEqual(len(fillings(opens)), 16 * len(last))
            paper = settling(*call)
            self.assertIs(self.as_due(paper, call), True)
            self.assertEqual([row[0] for row in paper[0]], [(0, 1, 2, 3, 4)])
            for part in (0, 1):
                for place in range(len(paper[part])):
                    rows = paper[part]
                    self.bad(put_at(paper, (part,), rows[:place] + rows[place + 1:]), call)
            for other in fillings(opens):
                self.as_due(put_at(paper, (1, 4, 1), other), call)


if __name__ == "__main__":
    unittest.main()
