import copy
import itertools
import random
import unittest

from plain import plain_answer
from plain_opens import all_partings, all_views, fillings, plain_filled, plain_view_holds
from samples import (
    EMPTY, ask, asking_most, at_once, beside, changes, is_plain, land, nest, part_at, paths, put_at, say,
    things_of_every_kind,
)
from whoselaw.agreeing import agreeing, agreeing_holds
from whoselaw.facts import is_book
from whoselaw.lands import are_lands
from whoselaw.opens import is_opens
from worlds import FOLK, full_worlds, shuffled, thrown_courts, thrown_opens

ALONE, TAKEN, COURT = range(3)
LAST_DAY = 10 ** 9
WHO, DAY = 5, 10
NOWHERE = ("no",)
QUESTION = (1, WHO, DAY)

CUSTOMS = [(0, 0, say(1)), (1, 0, ask(0, say(3), say(4), 2))]
# Land 0 asks by role 0, in the way court, land 1 by role 1, alone; land 2 has no rule.
ALIKE = (land([(1, 0, 0, COURT)], CUSTOMS), land([(1, 0, 1, ALONE)], CUSTOMS), land([], CUSTOMS))
# Where role 2 is with somebody, land 2 says another thing.
UNLIKE = put_at(ALIKE, (2, 1, 1, 2, 4), say(9))
BOOK = (at_once(WHO, 0, 0), at_once(WHO, 1, 0), beside(WHO, 2, 7, DAY + 1), at_once(7, 0, 1))
OPENS = (
    (WHO, 0, (("in", 1), ("in", 2))),
    (WHO, 1, (("in", 1), NOWHERE)),
    (WHO, 2, (("in", 0), ("with", 6))),
)
ALL = (2, 0, 1)


def is_right(thing, lands, book, question, courts, opens):
    """Whether it is a paper of one of both kinds, by a second telling."""
    if type(thing) is tuple and len(thing) == 2 and thing[0] == "agree":
        return plain_view_holds(lands, book, question, courts, opens, (), thing[1])
    return repr(thing) in [repr(each) for each in all_partings(lands, book, question, courts, opens)]


def holds(thing, lands=ALIKE, courts=ALL, opens=OPENS, question=QUESTION, book=BOOK):
    return agreeing_holds(lands, book, question, courts, opens, thing)


class Checked(unittest.TestCase):
    def tells(self, lands=ALIKE, courts=ALL, opens=OPENS, question=QUESTION, book=BOOK):
        self.assertTrue(are_lands(lands) and is_book(lands, book) and is_opens(lands, opens))
        told = agreeing(lands, book, question, courts, opens)
        self.assertTrue(is_plain(told))
        self.assertIs(agreeing_holds(lands, book, question, courts, opens, told), True)
        partings = all_partings(lands, book, question, courts, opens)
        if partings:
            self.assertIn(told, partings)
        else:
            self.assertTrue(is_right(told, lands, book, question, courts, opens))
        return told

    def bad(self, thing, **more):
        told = holds(thing, **more)
        # Large things are shown only where they are to blame.
        if told is not False:
            self.fail((repr(more)[:300], repr(thing)[:500]))

    def as_due(self, thing, lands=ALIKE, courts=ALL, opens=OPENS, question=QUESTION, book=BOOK):
        told = holds(thing, lands, courts, opens, question, book)
        if told is not is_right(thing, lands, book, question, courts, opens):
            self.fail((told, repr(thing)[:500]))
        return told


class Agreeing(Checked):
    def test_courts_that_agree_in_every_filling(self):
        for courts in itertools.permutations((0, 1, 2)):
            self.assertEqual(self.tells(courts=courts)[0], "agree")

    def test_courts_that_part_in_some(self):
        for courts in itertools.permutations((0, 1, 2)):
            word, filling, low, high = self.tells(UNLIKE, courts)
            self.assertEqual((word, filling[2]), ("part", ("with", 6)))
            self.assertLess(courts.index(low[0]), courts.index(high[0]))

    def test_courts_that_part_in_just_one(self):
        # Land 1 is asked by land 0 only where all three roles are in land 1; it alone says 7.
        first = land([(3, 0, 0, ALONE)], [(0, 0, say(1)), (3, 0, say(6))])
        deep = ask(0, ask(0, say(7), say(6), 1), say(6), 2)
        lands = (first, land([], [(0, 0, say(1)), (3, 0, deep)]), land([], [(3, 0, say(6))]))
        opens = ((WHO, 0, (("in", 0), ("in", 1), ("in", 2))), (WHO, 1, (NOWHERE, ("with", 1))),
                 (WHO, 2, (("in", 2), ("with", 1))))
        question = (3, WHO, DAY)
        for courts in ((0, 2), (2, 0)):
            self.assertEqual(len(all_partings(lands, (), question, courts, opens)), 1)
            told = self.tells(lands, courts, opens, question, ())
            self.assertEqual(told[:2], ("part", (("in", 1), ("with", 1), ("with", 1))))
            self.assertEqual([side[:2] for side in told[2:]], [(court, 7 if court == 0 else 6) for court in courts])
            for place, options in enumerate(row[2] for row in opens):
                fewer = tuple(option for option in options if option != told[1][place])
                view = self.tells(lands, courts, put_at(opens, (place, 2), fewer), question, ())
                self.assertEqual(view[0], "agree")

    def test_no_opens(self):
        told = self.tells(opens=())
        self.assertEqual((told[0], told[1][0], told[1][1]), ("agree", "told", 4))
        self.assertEqual(self.tells(UNLIKE, opens=(), question=(1, WHO, DAY))[0], "agree")
        told = self.tells(UNLIKE, opens=(), question=(1, WHO, DAY + 1))
        self.assertEqual(told[:2], ("part", ()))
        self.assertEqual([side[:2] for side in told[2:]], [(2, 9), (0, 3)])

    def test_one_court(self):
        for lands in (ALIKE, UNLIKE):
            for court in range(3):
                word, view = self.tells(lands, (court,))
                self.assertEqual((word, view[0]), ("agree", "split"))

    def test_opens_at_which_no_court_looks(self):
        opens = ((8, 0, (("in", 0), ("in", 1))), (8, 3, (NOWHERE, ("with", 1))))
        self.assertEqual(self.tells(opens=opens)[1][0], "told")
        told = self.tells(UNLIKE, opens=opens, question=(1, WHO, DAY + 1))
        self.assertEqual(told[0], "part")
        self.assertIn(told[1], fillings(opens))
        # Beside others at which they look.
        self.assertEqual(self.tells(opens=OPENS + opens)[0], "agree")
        self.assertEqual(len(self.tells(UNLIKE, opens=OPENS + opens)[1]), 5)

    def test_opens_of_one_option(self):
        opens = tuple((who, role, options[-1:]) for who, role, options in OPENS)
        self.assertEqual(self.tells(opens=opens)[0], "agree")
        self.assertEqual(self.tells(UNLIKE, opens=opens)[1], tuple(row[2][0] for row in opens))
        opens = ((WHO, 2, (NOWHERE,)),)
        self.assertEqual(self.tells(UNLIKE, opens=opens)[0], "agree")

    def test_books_are_filled_on_the_questions_day(self):
        # The facts that the book has of these pairs are nothing to it, of whatever day.
        for day in (0, DAY, DAY + 1, LAST_DAY):
            told = self.tells(UNLIKE, question=(1, WHO, day))
            self.assertEqual(told[1][2], ("with", 6))
            self.assertIn((WHO, 2, day, ("with", 6)), [entry[1] for entry in told[2][2][1]])

    def test_many_worlds(self):
        dice = random.Random(161)
        words = []
        for lands, book in full_worlds(200, 162):
            opens = thrown_opens(dice, len(lands), 24)
            courts = thrown_courts(dice, len(lands))
            # Often of a one that is among the opens.
            who = dice.choice([row[0] for row in opens] + [dice.randrange(FOLK)])
            question = (dice.randrange(4), who, dice.randrange(5))
            told = self.tells(lands, courts, opens, question, book[:50])
            words.append((told[0], len(courts) > 1, told[1][0] if told[0] == "agree" else len(told[1]) > 0))
        counts = {word: words.count(word) for word in words}
        self.assertGreater(min(counts[("agree", True, "split")], counts[("part", True, True)]), 10)

    def test_asked_again_behind_others_it_tells_the_same(self):
        dice = random.Random(163)
        calls = []
        for lands, book in full_worlds(40, 164):
            courts = thrown_courts(dice, len(lands))
            calls.append((lands, book[:50], (3, dice.randrange(5), 4), courts, thrown_opens(dice, len(lands))))
        kept = copy.deepcopy(calls)
        first = [agreeing(*call) for call in calls]
        for place in shuffled(len(calls), 165):
            self.assertEqual(agreeing(*calls[place]), first[place])
            self.assertIs(agreeing_holds(*calls[place], first[place]), True)
        self.assertEqual(calls, kept)


class RightPapers(Checked):
    def test_every_view(self):
        views = all_views(ALIKE, BOOK, QUESTION, ALL, OPENS)
        self.assertGreater(len(views), 10)
        for view in views:
            self.assertIs(holds(("agree", view)), True)
            self.bad(("agree", view), lands=UNLIKE)
        self.assertIn(agreeing(ALIKE, BOOK, QUESTION, ALL, OPENS), [("agree", view) for view in views])

    def test_every_filling_in_which_two_courts_part(self):
        partings = all_partings(UNLIKE, BOOK, QUESTION, ALL, OPENS)
        self.assertGreater(len(partings), 3)
        self.assertGreater(len({each[1] for each in partings}), 2)
        for paper in partings:
            self.assertIs(holds(paper, UNLIKE), True)
            self.assertIs(holds(copy.deepcopy(paper), UNLIKE), True)
            self.bad(paper)
        self.assertIn(agreeing(UNLIKE, BOOK, QUESTION, ALL, OPENS), partings)

    def test_in_the_courts_order_and_the_other_one(self):
        for courts in itertools.permutations((0, 1, 2)):
            for word, filling, low, high in all_partings(UNLIKE, BOOK, QUESTION, courts, OPENS):
                self.assertIs(holds((word, filling, low, high), UNLIKE, courts), True)
                self.bad((word, filling, high, low), lands=UNLIKE, courts=courts)
                self.assertIs(holds((word, filling, high, low), UNLIKE, courts[::-1]), True)
                self.bad((word, filling, low, high), lands=UNLIKE, courts=courts[::-1])
                # Both have to be among the courts.
                self.bad((word, filling, low, high), lands=UNLIKE, courts=(low[0],))
                self.bad((word, filling, low, high), lands=UNLIKE, courts=(high[0],))
                third = tuple(court for court in courts if court not in (low[0], high[0]))
                self.bad((word, filling, low, high), lands=UNLIKE, courts=third + (low[0],))
                self.assertIs(holds((word, filling, low, high), UNLIKE, (low[0], high[0])), True)

    def test_of_many_worlds(self):
        dice = random.Random(166)
        many = 0
        for lands, book in full_worlds(40, 167):
            opens = thrown_opens(dice, len(lands), 12)[:3]
            courts = thrown_courts(dice, len(lands))
            question = (dice.randrange(4), dice.randrange(FOLK), dice.randrange(5))
            book = book[:50]
            for paper in all_partings(lands, book, question, courts, opens):
                many += 1
                self.assertIs(agreeing_holds(lands, book, question, courts, opens, paper), True)
        self.assertGreater(many, 30)


class OtherPapers(Checked):
    def test_any_one_part_put_otherwise_at_any_depth(self):
        # A part that is put otherwise may make another right paper, as one of another filling.
        paper = all_partings(UNLIKE, BOOK, QUESTION, ALL, OPENS)[0]
        right = {repr(each) for each in all_partings(UNLIKE, BOOK, QUESTION, ALL, OPENS)}
        for changed in changes(paper):
            told = holds(changed, UNLIKE)
            if told is not (repr(changed) in right):
                self.fail(repr(changed)[:500])
        paper = agreeing(ALIKE, BOOK, QUESTION, (2,), OPENS)
        for changed in changes(paper):
            self.bad(changed, courts=(2,))

    def test_truths_where_a_number_is_due(self):
        changed = 0
        papers = [(agreeing(ALIKE, BOOK, QUESTION, ALL, OPENS), ALIKE)]
        papers += [(paper, UNLIKE) for paper in all_partings(UNLIKE, BOOK, QUESTION, ALL, OPENS)]
        for paper, lands in papers:
            for path in paths(paper):
                number = part_at(paper, path)
                if type(number) is int and number in (0, 1):
                    changed += 1
                    self.bad(put_at(paper, path, bool(number)), lands=lands)
        self.assertGreater(changed, 100)

    def test_courts_with_like_answers(self):
        for lands in (ALIKE, UNLIKE):
            for filling in fillings(OPENS):
                for paper in all_sides(lands, filling):
                    self.assertIs(self.as_due(paper, lands=lands), paper[2][1] != paper[3][1])

    def test_one_court_twice(self):
        for word, filling, low, high in all_partings(UNLIKE, BOOK, QUESTION, ALL, OPENS):
            for first, second in ((low, low), (high, high), (low, high[:1] + low[1:]), (high[:1] + low[1:], high)):
                self.bad((word, filling, first, second), lands=UNLIKE)

    def test_an_answer_put_otherwise(self):
        for lands in (ALIKE, UNLIKE):
            for filling in fillings(OPENS):
                for paper in all_sides(lands, filling):
                    for place in (2, 3):
                        for answer in (0, 1, 3, 4, 9, None, True, False, "9", (9,)):
                            if repr(answer) != repr(paper[place][1]):
                                self.bad(put_at(paper, (place, 1), answer), lands=lands)

    def test_another_filling_or_none(self):
        for paper in all_partings(UNLIKE, BOOK, QUESTION, ALL, OPENS):
            for filling in fillings(OPENS):
                self.as_due(put_at(paper, (1,), filling), lands=UNLIKE)
            filling = paper[1]
            for made in ((), filling[:2], filling + filling[:1], filling[::-1], list(filling), None, filling[1:],
                         (NOWHERE,) * 3, tuple(list(option) for option in filling), tuple(row[2] for row in OPENS)):
                if made != filling:
                    self.bad(put_at(paper, (1,), made), lands=UNLIKE)
            for place in range(3):
                for option in (("in", 3), ("in", 0, 0), ("with", 99), ("with", WHO), ("in", True), ("no", 0), (), None):
                    self.bad(put_at(paper, (1, place), option), lands=UNLIKE)

    def test_an_option_that_is_not_the_opens_though_nothing_looks_at_it(self):
        opens = OPENS + ((8, 3, (("with", 1), ("with", 2))),)
        papers = all_partings(UNLIKE, BOOK, QUESTION, ALL, opens)
        self.assertIs(holds(papers[0], UNLIKE, opens=opens), True)
        for option in (NOWHERE, ("with", 3), ("with", True), ("in", 1), None, (), ["with", 1], 1):
            self.bad(put_at(papers[0], (1, 3), option), lands=UNLIKE, opens=opens)
        self.assertIs(holds(put_at(papers[0], (1, 3), ("with", 2)), UNLIKE, opens=opens), True)

    def test_parts_of_papers_in_one_anothers_place(self):
        paper = all_partings(UNLIKE, BOOK, QUESTION, ALL, OPENS)[0]
        right = {repr(each) for each in all_partings(UNLIKE, BOOK, QUESTION, ALL, OPENS)}
        parts = sorted({part_at(paper, path) for path in paths(paper)}, key=repr)
        for path in paths(paper):
            for new in parts:
                changed = put_at(paper, path, new)
                self.assertIs(holds(changed, UNLIKE), repr(changed) in right)

    def test_a_view_and_a_parting_in_one_anothers_dress(self):
        view = agreeing(ALIKE, BOOK, QUESTION, ALL, OPENS)[1]
        word, filling, low, high = agreeing(UNLIKE, BOOK, QUESTION, ALL, OPENS)
        for lands in (ALIKE, UNLIKE):
            for made in (view, ("part", view), ("agree", view, view), ("agree", ("agree", view)), ("agree", filling),
                         ("agree", filling, low, high), (word, filling, low), (word, filling, low, high, low),
                         (word, low, high), (word, filling, (low, high)), ("part", filling), (filling, low, high),
                         ("agree", word, filling, low, high), (("agree", view),), ("agree",), ("part",)):
                self.bad(made, lands=lands)

    def test_papers_that_are_right_elsewhere(self):
        cases = [
            {}, {"lands": UNLIKE}, {"lands": UNLIKE, "courts": (0, 1)}, {"courts": (2,)}, {"courts": (1, 0, 2)},
            {"opens": OPENS[:2]}, {"opens": OPENS[1:]}, {"opens": ()}, {"lands": UNLIKE, "opens": OPENS[2:]},
            {"lands": UNLIKE, "courts": (0, 2, 1)}, {"question": (1, 7, DAY)}, {"question": (0, WHO, DAY)},
            {"lands": UNLIKE, "question": (1, WHO, DAY + 1)}, {"book": ()}, {"lands": ALIKE[:2] + (EMPTY,)},
            {"lands": UNLIKE, "question": (1, WHO, DAY + 1), "opens": ()},
        ]
        papers = [self.tells(**case) for case in cases]
        told = [self.as_due(paper, **case) for paper in papers for case in cases]
        self.assertGreaterEqual(told.count(True), len(cases))
        self.assertGreater(told.count(False), 100)


def all_sides(lands, filling):
    """A paper for each two courts by this filling, whether they part or not."""
    then = plain_filled(BOOK, OPENS, filling, DAY)
    told = [(court,) + plain_answer(lands, then, court, QUESTION) for court in ALL]
    return [("part", filling, low, high) for low, high in itertools.combinations(told, 2)]


class OtherThings(Checked):
    def test_in_the_papers_place(self):
        word, filling, low, high = agreeing(UNLIKE, BOOK, QUESTION, ALL, OPENS)
        for thing in things_of_every_kind() + [()]:
            for made in (thing, (thing,), ("agree", thing), ("part", thing), (thing, thing), (thing,) * 4,
                         ("part", thing, thing, thing), (word, thing, low, high), (word, filling, thing, high),
                         (word, filling, low, thing), (thing, filling, low, high), (word, filling, low, high, thing),
                         ("agree", ("told", 4, thing)), ("agree", ("split", thing, ())),
                         ("agree", ("split", 2, thing))):
                for lands in (ALIKE, UNLIKE):
                    self.bad(made, lands=lands)

    def test_in_each_place_of_a_paper(self):
        things = things_of_every_kind()
        paper = agreeing(UNLIKE, BOOK, QUESTION, ALL, OPENS)
        for path in paths(paper):
            for thing in things:
                changed = put_at(paper, path, thing)
                if repr(changed) != repr(paper):
                    self.bad(changed, lands=UNLIKE)

    def test_where_there_are_no_opens(self):
        question = (1, WHO, DAY + 1)
        for lands in (ALIKE, UNLIKE):
            paper = agreeing(lands, BOOK, question, ALL, ())
            self.assertIs(holds(paper, lands, opens=(), question=question), True)
            right = {repr(each) for each in all_partings(lands, BOOK, question, ALL, ())}
            for changed in changes(paper):
                self.assertIs(holds(changed, lands, opens=(), question=question), repr(changed) in right)

    def test_large_and_deep_things(self):
        word, filling, low, high = agreeing(UNLIKE, BOOK, QUESTION, ALL, OPENS)
        self.bad((word, filling * 5000, low, high), lands=UNLIKE)
        self.bad((word, filling, low * 500, high), lands=UNLIKE)
        self.bad(nest(30, lambda inner: ("agree", inner), ("told", 4, ())))
        self.bad(nest(19, lambda inner: ("agree", ("split", 0, (inner, inner))), ("told", 4, ())))

    def test_what_was_handed_in_stays(self):
        thing = [list(agreeing(UNLIKE, BOOK, QUESTION, ALL, OPENS)), {"a": ()}]
        kept = copy.deepcopy(thing)
        self.bad(thing, lands=UNLIKE)
        self.bad(thing[0], lands=UNLIKE)
        self.bad(tuple(thing), lands=UNLIKE)
        self.assertEqual(thing, kept)


class Bounds(Checked):
    def sets_of_opens(self, who):
        two = (("in", 0), ("in", 4))
        four = (("in", 0), ("in", 1), ("in", 4), NOWHERE)
        six = tuple(("in", number) for number in range(5)) + (("with", 98),)
        return (
            ((who, 0, six),), tuple(sorted([(who, role, two) for role in range(4)] + [(98, 0, two)])),
            tuple((who, role, four) for role in range(3)),
        )

    def test_five_lands_fifty_facts_and_sixty_four_fillings(self):
        customs = asking_most()
        lands = tuple(
            land([(kind, 0, number % 3, way) for kind in range(4)], customs)
            for number, way in enumerate((COURT, COURT, COURT, TAKEN, ALONE))
        )
        unlike = put_at(lands, (4, 1, 3, 2), say(9))
        # The roles of 0 are come to at the end of long trails.
        book = [beside(who, role, who - 1) for who in range(1, 17) for role in range(3)]
        book = tuple(sorted(book + [at_once(99, 0, 4), at_once(97, 0, 3)]))
        self.assertEqual(len(book), 50)
        for opens in self.sets_of_opens(0):
            self.assertEqual(self.tells(lands, (4, 2, 0, 1, 3), opens, (3, 16, LAST_DAY), book)[0], "agree")
        self.assertEqual(self.tells(unlike, (0, 1, 2, 3, 4), self.sets_of_opens(0)[0], (3, 16, 0), book)[0], "part")
        for opens in self.sets_of_opens(99):
            for day in (0, LAST_DAY):
                self.assertEqual(self.tells(lands, (0, 1, 2, 3, 4), opens, (3, 99, day), book)[0], "agree")
                self.assertEqual(self.tells(unlike, (3, 4), opens, (3, 99, day), book)[0], "part")


if __name__ == "__main__":
    unittest.main()
