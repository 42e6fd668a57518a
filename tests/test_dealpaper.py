import copy
import unittest
from fractions import Fraction

from plain_deals import plain_dealt
from samples import (
    EMPTY, ask, at_once, beside, changes, land, nest, part_at, paths, put_at, say, things_of_every_kind,
)
from whoselaw.dealing import dealt
from whoselaw.dealpaper import dealing_holds, lowest_terms
from whoselaw.facts import is_book
from whoselaw.lands import are_lands
from worlds import FOLK, full_worlds

ALONE, TAKEN, COURT = range(3)
LAST_DAY = 10 ** 9
DAY = 1

# Things 6 and 7 are held by 0; 1 and 2 are kin of it by role 0, 1 and 3 by role 1, the thing 6 by role 2.
BOOK = tuple(sorted([
    at_once(0, 0, 1), beside(1, 0, 0), beside(2, 0, 0, 1), beside(1, 1, 0), beside(3, 1, 0), beside(6, 2, 0),
    at_once(3, 0, 1), at_once(6, 1, 1), at_once(7, 1, 0), beside(6, 3, 0), beside(7, 3, 0, 1), at_once(8, 3, 0),
    beside(9, 3, 5),
]))
# Land 0 deals by its second rank, land 1 by its first; land 2 deals 7 out, of whose holder 6 is kin, by its third
# one, and has the whole of 6.
LANDS = (
    land(
        [(1, 0, 1, ALONE), (2, 0, 1, COURT)],
        [(0, 0, say(0)), (1, 0, ask(0, say(1), say(2), 0))],
        [(0, (((2, 1, 0, 0),), ((0, 2, 1, 0), (1, 4, None, 0))))],
    ),
    land(
        [(1, 0, 0, TAKEN)],
        [(0, 0, say(1)), (1, 0, ask(0, say(0), say(3), 1, 1)), (2, 0, ask(1, say(0), say(1)))],
        [(0, (((0, 3, 2, 1), (1, 3, 1, 0), (0, 6, 1, 0)), ((2, 1, 3, 0),)))],
    ),
    land(heirs=[(0, (((2, 1, 3, 0),), ((0, 1, 0, 1),), ((2, 9, None, 0), (1, 1, 2, 0))))]),
)
# Court, kind, thing, day.
CALLS = [(court, kind, thing, DAY) for court in (0, 1) for kind in range(4) for thing in (6, 7)]
CALLS += [(2, 0, 6, DAY), (2, 0, 7, DAY)]
TOLD = {call: plain_dealt(LANDS, BOOK, *call) for call in CALLS}
WIDE = [(0, 0, 6, DAY), (0, 1, 6, DAY), (1, 2, 7, DAY), (2, 0, 6, DAY), (2, 0, 7, DAY)]
UNHELD = [(0, 0, 8, DAY), (0, 0, 5, DAY), (1, 1, 7, 0)]


def holds(call, dealing, paper, lands=LANDS, book=BOOK):
    court, kind, thing, day = call
    return dealing_holds(lands, book, court, kind, thing, day, dealing, paper)


class Checked(unittest.TestCase):
    def bad(self, call, dealing, paper, lands=LANDS, book=BOOK):
        told = holds(call, dealing, paper, lands, book)
        # Large things are shown only where they are to blame.
        if told is not False:
            self.fail((call, repr(dealing)[:200], repr(paper)[:500]))


class TheDealing(Checked):
    def test_lands_book_and_dealings_are_such(self):
        self.assertTrue(are_lands(LANDS) and is_book(LANDS, BOOK))
        self.assertEqual({dealing[0] for dealing, _ in TOLD.values()}, {"land", "ones"})
        depths = {(dealing[0], len(ranks)) for dealing, (_, ranks) in TOLD.values()}
        self.assertEqual(depths, {("ones", 1), ("ones", 2), ("ones", 3), ("land", 3)})
        answers = {
            row[1] for _, (_, ranks) in TOLD.values() for rank in ranks for rows in rank for row in rows
        }
        self.assertEqual(answers, {None, 0, 1, 2, 3})

    def test_it_holds(self):
        for call in CALLS:
            dealing, paper = TOLD[call]
            self.assertEqual(dealt(LANDS, BOOK, *call), (dealing, paper))
            for _ in range(2):
                self.assertIs(holds(call, dealing, paper), True)
                self.assertIs(holds(call, copy.deepcopy(dealing), copy.deepcopy(paper)), True)

    def test_just_one_holds_of_many(self):
        for lands, book in full_worlds(12, 81):
            calls = [(court, kind, thing, 3) for court in range(len(lands)) for kind in (0, 2) for thing in range(FOLK)]
            due = [plain_dealt(lands, book, *call) for call in calls]
            told = sorted({each for each in due if each is not None}, key=repr)
            for call, right in zip(calls, due):
                held = [each for each in told if holds(call, *each, lands, book)]
                self.assertEqual(held, [] if right is None else [right])


class OtherPapers(Checked):
    def test_any_one_part_put_otherwise_at_any_depth(self):
        for call in WIDE:
            dealing, paper = TOLD[call]
            for changed in changes(paper):
                self.bad(call, dealing, changed)
            for changed in changes(dealing):
                self.bad(call, changed, paper)

    def test_truths_where_a_number_is_due(self):
        changed = 0
        for call in CALLS:
            for path in paths(TOLD[call]):
                number = part_at(TOLD[call], path)
                if type(number) is int and number in (0, 1):
                    changed += 1
                    self.bad(call, *put_at(TOLD[call], path, bool(number)))
        self.assertGreater(changed, 200)

    def test_a_share_that_is_not_in_lowest_terms(self):
        for call in CALLS:
            dealing, paper = TOLD[call]
            for path in paths(dealing):
                if len(path) == 3 and path[2] == 1:
                    above, below = part_at(dealing, path)
                    for many in (-1, 0, 2, 3, 10):
                        self.bad(call, put_at(dealing, path, (above * many, below * many)), paper)

    def test_shares_of_the_same_sum_put_otherwise(self):
        for call in CALLS:
            dealing, paper = TOLD[call]
            if dealing[0] == "land":
                continue
            ones = [one for one, _ in dealing[1]]
            for even in ([Fraction(1, len(ones))] * len(ones), [Fraction(1)] + [Fraction(0)] * (len(ones) - 1)):
                shares = tuple((one, (part.numerator, part.denominator)) for one, part in zip(ones, even))
                if shares != dealing[1]:
                    self.bad(call, ("ones", shares), paper)
            for number in (0, 1, 2):
                self.bad(call, ("land", number), paper)
            self.bad(call, ("ones", ()), paper)

    def test_a_rank_more_fewer_or_twice(self):
        for call in CALLS:
            dealing, (chain, ranks) = TOLD[call]
            for more in other_ranks():
                self.bad(call, dealing, (chain, ranks + (more,)))
                self.bad(call, dealing, (chain, (more,) + ranks))
            for many in range(len(ranks)):
                self.bad(call, dealing, (chain, ranks[:many]))
            for place in range(len(ranks)):
                self.bad(call, dealing, (chain, ranks[:place] + ranks[place + 1:]))
                self.bad(call, dealing, (chain, ranks[:place] + ranks[place:place + 1] + ranks[place:]))
            if ranks != ranks[::-1]:
                self.bad(call, dealing, (chain, ranks[::-1]))

    def test_the_dealing_of_a_later_rank_beside_its_paper(self):
        """As if a rank that calls somebody had called nobody."""
        lands = (land(heirs=[(0, (((0, 1, None, 0),), ((1, 1, None, 0),)))]),)
        book = tuple(sorted([beside(1, 0, 5), beside(2, 1, 5), beside(6, 3, 5)]))
        call = (0, 0, 6, DAY)
        chain = (("none", 0),)
        first, second = (((1, None, None),),), (((2, None, None),),)
        self.assertIs(holds(call, ("ones", ((1, (1, 1)),)), (chain, (first,)), lands, book), True)
        for ones in (((2, (1, 1)),), ((1, (1, 1)),), ((1, (1, 2)), (2, (1, 2)))):
            self.bad(call, ("ones", ones), (chain, (first, second)), lands, book)
        self.bad(call, ("ones", ((2, (1, 1)),)), (chain, (((),), second)), lands, book)
        self.bad(call, ("ones", ((2, (1, 1)),)), (chain, (second,)), lands, book)
        self.bad(call, ("land", 0), (chain, ()), lands, book)
        self.bad(call, ("land", 0), (chain, (((),),)), lands, book)

    def test_a_row_more_fewer_or_twice(self):
        for call in CALLS:
            dealing, paper = TOLD[call]
            for path in paths(paper):
                if len(path) == 3 and path[0] == 1:
                    rows = part_at(paper, path)
                    for place in range(len(rows)):
                        fewer = rows[:place] + rows[place + 1:]
                        self.bad(call, dealing, put_at(paper, path, fewer))
                        twice = rows[:place + 1] + rows[place:]
                        self.bad(call, dealing, put_at(paper, path, twice))
                    for one in (0, 1, 2, 3, 4, 6, 99):
                        for place in range(len(rows) + 1):
                            more = rows[:place] + ((one, None, None),) + rows[place:]
                            self.bad(call, dealing, put_at(paper, path, more))

    def test_another_answer(self):
        for call in CALLS:
            dealing, paper = TOLD[call]
            for path in paths(paper):
                if len(path) == 5 and path[0] == 1 and path[4] == 1:
                    answer = part_at(paper, path)
                    for other in (None, False, True, "", 0, 1, 2, 9, -1, (), [answer], str(answer)):
                        if type(other) is not type(answer) or other != answer:
                            self.bad(call, dealing, put_at(paper, path, other))

    def test_parts_of_papers_in_one_anothers_place(self):
        call = WIDE[1]
        dealing, paper = TOLD[call]
        parts = sorted({part_at(paper, path) for path in paths(paper)}, key=repr)
        for path in paths(paper):
            for new in parts:
                changed = put_at(paper, path, new)
                if changed != paper:
                    self.bad(call, dealing, changed)

    def test_both_exchanged_or_as_one(self):
        for call in CALLS:
            dealing, paper = TOLD[call]
            for low, high in ((paper, dealing), (dealing, dealing), (paper, paper), ((dealing, paper), paper),
                              (dealing, (dealing, paper)), (dealing, None), (None, paper), (None, None)):
                self.bad(call, low, high)


def other_ranks():
    """All that stands for a rank in one of the papers."""
    return sorted({rank for _, (_, ranks) in TOLD.values() for rank in ranks}, key=repr) + [(), ((),), ((), ())]


class ElsewhereRight(Checked):
    def test_of_another_court_kind_thing_or_day(self):
        calls = [(court, kind, thing, day) for court in (0, 1, 2) for kind in range(4)
                 for thing in (6, 7, 8, 9) for day in (0, 1, LAST_DAY)]
        told = {call: plain_dealt(LANDS, BOOK, *call) for call in calls}
        for call in calls:
            for other in calls:
                if told[other] is not None:
                    self.assertIs(holds(call, *told[other]), told[call] == told[other], (call, other))

    def test_of_another_book_or_other_lands(self):
        books = [BOOK[:place] + BOOK[place + 1:] for place in range(len(BOOK))]
        books += [put_at(BOOK, (place, 3), ("with", 98)) for place in range(len(BOOK))] + [BOOK]
        all_lands = [put_at(LANDS, (number,), EMPTY) for number in (0, 1)]
        all_lands += [put_at(LANDS, (number, 2), ()) for number in (0, 1)]
        all_lands += [put_at(LANDS, (0, 2, 0, 1, 1, 0, 1), 3), put_at(LANDS, (1, 2, 0, 1, 0, 2, 3), 1)]
        all_lands += [put_at(LANDS, (2, 2, 0, 1), LANDS[2][2][0][1][1:]), LANDS]
        outcomes = set()
        for call in WIDE:
            for lands in all_lands:
                for book in books:
                    alike = plain_dealt(lands, book, *call) == TOLD[call]
                    outcomes.add(alike)
                    self.assertIs(holds(call, *TOLD[call], lands, book), alike)
        self.assertEqual(outcomes, {True, False})

    def test_where_nobody_holds_the_thing(self):
        for call in UNHELD:
            self.assertIsNone(plain_dealt(LANDS, BOOK, *call))
            for dealing, paper in TOLD.values():
                self.bad(call, dealing, paper)
            for court in (0, 1):
                for chain in ((("none", court),), TOLD[CALLS[0]][1][0]):
                    for ranks in ((), (((),),), ((), ())):
                        self.bad(call, ("land", court), (chain, ranks))

    def test_where_nobody_holds_a_thing_of_which_all_else_stands(self):
        for call in CALLS:
            dealing, paper = TOLD[call]
            for at in ((), (("in", 0),), (("in", 1),)):
                book = tuple(fact for fact in BOOK if fact[:2] != (call[2], 3))
                book = tuple(sorted(book + tuple((call[2], 3, 0, each) for each in at)))
                self.bad(call, dealing, paper, book=book)


class OtherThings(Checked):
    def test_in_either_place(self):
        for thing in things_of_every_kind() + [()]:
            for call in CALLS + UNHELD:
                dealing, paper = TOLD.get(call, TOLD[CALLS[0]])
                chain, ranks = paper
                self.bad(call, thing, paper)
                self.bad(call, (thing, thing), paper)
                for made in (thing, (thing, thing), (chain, thing), (thing, ranks), (chain, ranks + (thing,)),
                             (chain, (thing,) + ranks)):
                    self.bad(call, dealing, made)
                for made in (("ones", thing), (thing, dealing[1]), dealing + (thing,), ("land", thing),
                             ("ones", ((1, (1, 1)), thing))):
                    self.bad(call, made, paper)

    def test_in_each_place_of_a_paper(self):
        things = things_of_every_kind()
        for call in WIDE[:1] + WIDE[3:]:
            for path in paths(TOLD[call]):
                for thing in things:
                    changed = put_at(TOLD[call], path, thing)
                    if type(changed) is tuple and len(changed) == 2 and repr(changed) != repr(TOLD[call]):
                        self.bad(call, *changed)

    def test_in_both_places(self):
        things = things_of_every_kind() + [()]
        for dealing in things:
            for paper in things:
                self.bad(WIDE[0], dealing, paper)

    def test_large_and_deep_things_with_a_right_beginning(self):
        for call in WIDE:
            dealing, (chain, ranks) = TOLD[call]
            self.bad(call, dealing, (chain, ranks + ranks[-1:] * 19000))
            self.bad(call, dealing, (chain, (ranks[0][:1] * 19000,) + ranks[1:]))
            self.bad(call, dealing, (chain + (0,) * 19000, ranks))
            self.bad(call, ("ones", ((1, (1, 2)),) * 2000), (chain, ranks))
            self.bad(call, dealing, nest(30, lambda inner: (chain, (inner,)), ranks))

    def test_what_was_handed_in_stays(self):
        dealing, paper = TOLD[WIDE[0]]
        things = [list(dealing), {"a": dealing}], [list(paper), {"a": paper}]
        kept = copy.deepcopy(things)
        self.bad(WIDE[0], *things)
        self.bad(WIDE[0], tuple(things[0]), tuple(things[1]))
        self.assertEqual(things, kept)


class NoHeirs(Checked):
    def test_a_land_that_has_the_whole(self):
        lands = (land([(0, 0, 1, ALONE)]), land(heirs=[(0, (((0, 1, None, 0),), ((0, 1, 0, 1),)))]))
        book = tuple(sorted([at_once(6, 1, 1), beside(6, 3, 5)]))
        self.assertTrue(are_lands(lands) and is_book(lands, book))
        told = plain_dealt(lands, book, 0, 0, 6, DAY)
        self.assertEqual((told[0], told[1][1]), (("land", 1), (((),), ((),))))
        other = plain_dealt(lands, book, 0, 1, 6, DAY)
        self.assertEqual(other, (("land", 0), ((("none", 0),), ())))
        for kind, (dealing, paper) in enumerate((told, other)):
            self.assertIs(holds((0, kind, 6, DAY), dealing, paper, lands, book), True)
            for changed in changes(paper):
                self.bad((0, kind, 6, DAY), dealing, changed, lands, book)
            for changed in changes(dealing):
                self.bad((0, kind, 6, DAY), changed, paper, lands, book)


class LowestTerms(unittest.TestCase):
    def test_fractions(self):
        for above in range(40):
            for below in range(1, 40):
                due = Fraction(above, below)
                self.assertEqual(lowest_terms(above, below), (due.numerator, due.denominator))
        self.assertEqual(lowest_terms(0, 9), (0, 1))
        self.assertEqual(lowest_terms(10 ** 40, 10 ** 39), (10, 1))


if __name__ == "__main__":
    unittest.main()
