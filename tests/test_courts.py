import copy
import unittest

from plain import plain_answer
from plain_deals import plain_holder
from plain_opens import plain_may_ask
from samples import EMPTY, ask, at_once, beside, is_plain, land, say
from whoselaw.courts import answers, may_ask, reached
from whoselaw.facts import is_book
from whoselaw.lands import are_lands
from whoselaw.trees import answer_of
from worlds import FOLK, LAST_WORLD_DAY, full_worlds, shuffled

ALONE, TAKEN, COURT = range(3)
LAST_DAY = 10 ** 9
WHO, DAY = 7, 10
# Each land has a reach for kind 0 by role 0, land 1 for kind 1 by role 1 too.
REACHING = (
    land(reaches=[(0, 0, 0)]), land(reaches=[(0, 0, 0), (1, 0, 1)]), land(reaches=[(0, 0, 0)]), EMPTY,
)


class Checked(unittest.TestCase):
    def lands_of(self, lands, book, question=(0, WHO, DAY)):
        self.assertTrue(are_lands(lands) and is_book(lands, book))
        told = may_ask(lands, book, question)
        self.assertEqual(told, plain_may_ask(lands, book, question))
        self.assertTrue(is_plain(told))
        self.assertEqual(answers(lands, book, question),
                         tuple((each, plain_answer(lands, book, each, question)[0]) for each in told))
        return told


class MayAsk(Checked):
    def test_no_reach_in_force(self):
        book = (at_once(WHO, 0, 0), at_once(WHO, 1, 0), at_once(WHO, 2, 0))
        self.assertEqual(self.lands_of((EMPTY, EMPTY), book), ())
        # Of another kind, or of a later day.
        lands = (land(reaches=[(1, 0, 0), (2, 0, 1)]), EMPTY)
        self.assertEqual(self.lands_of(lands, book), ())
        self.assertEqual(self.lands_of(lands, book, (1, WHO, DAY)), (0,))
        self.assertEqual(self.lands_of((land(reaches=[(0, DAY + 1, 0)]), EMPTY), book), ())

    def test_a_reach_that_leads_to_the_land(self):
        for number in range(4):
            book = (at_once(WHO, 0, number),)
            self.assertEqual(self.lands_of(REACHING, book), (number,) if number < 3 else ())

    def test_a_reach_that_leads_to_another_land_to_nothing_or_round(self):
        lands = (land(reaches=[(0, 0, 0)]), EMPTY)
        self.assertEqual(self.lands_of(lands, (at_once(WHO, 0, 1),)), ())
        self.assertEqual(self.lands_of(lands, ()), ())
        self.assertEqual(self.lands_of(lands, (beside(WHO, 0, 8),)), ())
        self.assertEqual(self.lands_of(lands, (beside(WHO, 0, 8), at_once(8, 1, 0))), ())
        self.assertEqual(self.lands_of(lands, (beside(WHO, 0, 8), beside(8, 0, WHO))), ())
        # An open trail or a round whose one has the land's number leads nowhere either.
        self.assertEqual(self.lands_of(lands, (beside(WHO, 0, 0),)), ())
        self.assertEqual(self.lands_of(lands, (beside(0, 0, WHO), beside(WHO, 0, 0)), (0, WHO, DAY)), ())
        self.assertEqual(self.lands_of(lands, (), (0, 0, DAY)), ())

    def test_several_lands_by_unlike_roles(self):
        lands = tuple(land(reaches=[(0, 0, role)]) for role in (2, 0, 1, 0, 1))
        book = (at_once(WHO, 0, 3), at_once(WHO, 1, 4), at_once(WHO, 2, 0))
        self.assertEqual(self.lands_of(lands, book), (0, 3, 4))
        self.assertEqual(self.lands_of(lands, (at_once(WHO, 0, 1), at_once(WHO, 1, 2), at_once(WHO, 2, 0))), (0, 1, 2))
        self.assertEqual(self.lands_of(lands, (at_once(WHO, 0, 0), at_once(WHO, 1, 1), at_once(WHO, 2, 2))), ())

    def test_of_the_very_day_and_of_the_day_behind_it(self):
        book = (at_once(WHO, 0, 0),)
        for since in (DAY - 1, DAY, DAY + 1):
            lands = (land(reaches=[(0, since, 0)]),)
            self.assertEqual(self.lands_of(lands, book), (0,) if since <= DAY else ())
        lands = (land(reaches=[(0, 0, 1), (0, DAY, 0), (0, DAY + 1, 1)]),)
        self.assertEqual([self.lands_of(lands, book, (0, WHO, day)) for day in (DAY - 1, DAY, DAY + 1)], [(), (0,), ()])
        lands = (land(reaches=[(0, 0, 0)]),)
        for when in (DAY - 1, DAY, DAY + 1):
            self.assertEqual(self.lands_of(lands, (at_once(WHO, 0, 0, when),)), (0,) if when <= DAY else ())

    def test_a_long_trail(self):
        lands = tuple(land(reaches=[(3, 0, 2)]) for _ in range(5))
        for number in range(5):
            book = tuple(beside(one, 2, one + 1) for one in range(40, 99)) + (at_once(99, 2, number),)
            self.assertEqual(len(book), 60)
            self.assertEqual(self.lands_of(lands, book, (3, 40, LAST_DAY)), (number,))
            self.assertEqual(self.lands_of(lands, book[1:], (3, 40, LAST_DAY)), ())


class Answers(Checked):
    def test_just_these_lands_each_with_its_courts_answer(self):
        # Land 0 sends it on to land 1; land 2 asks about another kind.
        lands = (
            land([(1, 0, 1, COURT)], [(1, 0, say(4))], reaches=[(1, 0, 0)]),
            land([], [(0, 0, say(1)), (1, 0, say(5))], reaches=[(1, 0, 0)]),
            land([], [(0, 0, say(2)), (1, 0, ask(0, say(7), say(8)))], reaches=[(1, 0, 2)]),
        )
        book = (at_once(WHO, 0, 0), at_once(WHO, 1, 1), at_once(WHO, 2, 2))
        self.assertEqual(self.lands_of(lands, book, (1, WHO, DAY)), (0, 2))
        self.assertEqual(answers(lands, book, (1, WHO, DAY)), ((0, 5), (2, 7)))
        self.assertEqual(answers(lands, book, (0, WHO, DAY)), ())
        self.assertEqual(answers(lands, book, (1, 8, DAY)), ())

    def test_an_answer_of_nought_is_told_too(self):
        self.assertEqual(answers(REACHING, (at_once(WHO, 0, 1),), (0, WHO, DAY)), ((1, 0),))

    def test_many_worlds(self):
        many = []
        for lands, book in full_worlds(60, 131):
            for kind in range(4):
                for who in range(FOLK + 1):
                    question = (kind, who, (kind + who) % (LAST_WORLD_DAY + 1))
                    told = self.lands_of(lands, book, question)
                    many.append(len(told))
                    self.assertEqual(answers(lands, book, question),
                                     tuple((each, answer_of(lands, book, each, question)[0]) for each in told))
                    self.assertTrue(is_plain(answers(lands, book, question)))
        self.assertGreater(many.count(1), 100)
        self.assertGreater(many.count(2), 10)
        self.assertGreater(many.count(0), 100)


class Reached(unittest.TestCase):
    def reach(self, lands, book, kind=0, who=50, day=DAY):
        self.assertTrue(are_lands(lands) and is_book(lands, book))
        told = reached(lands, book, kind, who, day)
        self.assertEqual(told, tuple(
            (thing, plain_may_ask(lands, book, (kind, thing, day))) for thing in range(100)
            if plain_holder(book, thing, day) == who
        ))
        self.assertTrue(is_plain(told))
        return told

    def test_somebody_who_holds_nothing(self):
        self.assertEqual(self.reach(REACHING, ()), ())
        self.assertEqual(self.reach(REACHING, (at_once(1, 0, 0), beside(1, 2, 50))), ())

    def test_things_of_two_courts_of_one_and_of_none(self):
        lands = (land(reaches=[(0, 0, 0)]), land(reaches=[(0, 0, 1)]), EMPTY)
        book = tuple(sorted([
            at_once(60, 0, 0), at_once(60, 1, 1), at_once(61, 1, 1), at_once(62, 0, 2), at_once(63, 0, 0),
            beside(60, 3, 50), beside(61, 3, 50), beside(62, 3, 50), beside(0, 3, 50), beside(99, 3, 50),
            beside(63, 3, 51),
        ]))
        self.assertEqual(self.reach(lands, book), ((0, ()), (60, (0, 1)), (61, (1,)), (62, ()), (99, ())))
        self.assertEqual(self.reach(lands, book, who=51), ((63, (0,)),))
        self.assertEqual(self.reach(lands, book, kind=1), tuple((thing, ()) for thing in (0, 60, 61, 62, 99)))

    def test_a_thing_goes_by_its_own_trail_not_by_its_holders(self):
        lands = (land(reaches=[(0, 0, 0)]),)
        self.assertEqual(self.reach(lands, (at_once(50, 0, 0), beside(60, 3, 50))), ((60, ()),))
        self.assertEqual(self.reach(lands, (at_once(50, 0, 0), beside(60, 0, 50), beside(60, 3, 50))), ((60, (0,)),))

    def test_things_held_earlier_or_by_another_one(self):
        lands = (land(reaches=[(0, 0, 0)]),)
        book = tuple(sorted([
            beside(1, 3, 50), beside(1, 3, 51, DAY), beside(2, 3, 50), at_once(2, 3, 0, DAY), beside(3, 3, 50, DAY + 1),
            beside(4, 3, 50, DAY), at_once(4, 0, 0), beside(5, 3, 51), at_once(1, 0, 0),
        ]))
        self.assertEqual(self.reach(lands, book), ((4, (0,)),))
        self.assertEqual(self.reach(lands, book, day=DAY - 1), ((1, (0,)), (2, ())))
        self.assertEqual(self.reach(lands, book, day=DAY + 1), ((3, ()), (4, (0,))))

    def test_thirty_things_and_five_lands(self):
        lands = tuple(land(reaches=[(2, LAST_DAY, role)]) for role in (0, 1, 2, 0, 1))
        book = [beside(thing, 3, 99, LAST_DAY) for thing in range(30)]
        book += [at_once(thing, thing % 3, thing % 5) for thing in range(30)]
        book = tuple(sorted(book))
        told = self.reach(lands, book, 2, 99, LAST_DAY)
        self.assertEqual(len(told), 30)
        self.assertEqual({lands_told for _, lands_told in told}, {(), (0,), (1,), (2,), (3,), (4,)})

    def test_many_worlds(self):
        told = set()
        for lands, book in full_worlds(60, 132):
            for who in range(FOLK):
                for kind in range(4):
                    told.update(len(each) for _, each in self.reach(lands, book, kind, who, LAST_WORLD_DAY))
        self.assertLessEqual({0, 1, 2}, told)


class AgainAndAgain(unittest.TestCase):
    def test_asked_again_behind_others_it_tells_the_same(self):
        calls = [
            (lands, book, (kind, who, LAST_WORLD_DAY))
            for lands, book in full_worlds(15, 133) for kind in range(4) for who in range(FOLK)
        ]
        kept = copy.deepcopy(calls)

        def all_told(lands, book, question):
            return may_ask(lands, book, question), answers(lands, book, question), reached(lands, book, *question)

        first = [all_told(*call) for call in calls]
        for place in shuffled(len(calls), 134):
            self.assertEqual(all_told(*calls[place]), first[place])
        self.assertEqual(calls, kept)


if __name__ == "__main__":
    unittest.main()
