import copy
import unittest
from fractions import Fraction

from plain_deals import plain_dealt, plain_with
from samples import EMPTY, ask, asking_most, at_once, beside, is_plain, land, say
from whoselaw import errors
from whoselaw.chains import chain_of
from whoselaw.dealing import dealt
from whoselaw.dealpaper import dealing_holds
from whoselaw.errors import LawError, NotHeld
from whoselaw.facts import held_by, holdings, is_book
from whoselaw.lands import are_lands
from whoselaw.trees import answer_of
from worlds import FOLK, LAST_WORLD_DAY, full_worlds, shuffled

ALONE, TAKEN, COURT = range(3)
LAST_DAY = 10 ** 9
OWNER, THING, DAY = 50, 60, 10
HELD = beside(THING, 3, OWNER)


def world(ranks, facts=(), customs=(), since=0):
    """One land that deals by these ranks, and a book in which the thing is held."""
    lands = (land(customs=customs, heirs=[(since, ranks)]),)
    book = tuple(sorted((HELD,) + tuple(facts)))
    assert are_lands(lands) and is_book(lands, book)
    return lands, book


def calling(role, weight=1, kind=None, mode=0):
    return (role, weight, kind, mode)


class Checked(unittest.TestCase):
    def deals(self, lands, book, court=0, kind=0, thing=THING, day=DAY):
        """The dealing and the ranks of its paper, which are compared with a second telling."""
        told = dealt(lands, book, court, kind, thing, day)
        self.assertEqual(told, plain_dealt(lands, book, court, kind, thing, day))
        self.assertTrue(is_plain(told))
        self.assertIs(dealing_holds(lands, book, court, kind, thing, day, *told), True)
        dealing, (chain, ranks) = told
        self.assertEqual(chain, chain_of(lands, book, court, (kind, thing, day)))
        return dealing, ranks


class Holding(unittest.TestCase):
    def test_the_one_with_whom_it_stands(self):
        book = (beside(3, 2, 9), beside(3, 3, 4, 5), at_once(3, 3, 0, 8), beside(5, 3, 4))
        told = {0: None, 4: None, 5: 4, 7: 4, 8: None, LAST_DAY: None}
        for day, one in told.items():
            self.assertEqual(held_by(book, 3, day), one)
            self.assertEqual(holdings(book, 4, day), (3, 5) if one else (5,))
        self.assertIsNone(held_by(book, 9, 9))


class Refused(unittest.TestCase):
    def refused(self, lands, book, day=DAY, thing=THING):
        self.assertTrue(are_lands(lands) and is_book(lands, book))
        for court in range(len(lands)):
            with self.assertRaises(NotHeld) as caught:
                dealt(lands, book, court, 0, thing, day)
            self.assertIs(type(caught.exception), NotHeld)
            self.assertIsInstance(caught.exception, LawError)
            self.assertIsInstance(caught.exception, ValueError)
            self.assertIs(dealing_holds(lands, book, court, 0, thing, day, ("land", court), ((("none", court),), ())),
                          False)

    def test_nothing_stands(self):
        self.refused((EMPTY, EMPTY), ())
        self.refused((EMPTY,), (beside(THING, 0, OWNER), beside(THING, 2, OWNER), beside(61, 3, OWNER)))

    def test_it_stands_in_a_land(self):
        self.refused((EMPTY, EMPTY), (at_once(THING, 3, 1),))
        self.refused((EMPTY,), (HELD, at_once(THING, 3, 0, DAY)))

    def test_it_is_held_only_from_the_next_day_on(self):
        book = (beside(THING, 3, OWNER, DAY + 1),)
        self.refused((EMPTY,), book)
        self.assertEqual(dealt((EMPTY,), book, 0, 0, THING, DAY + 1), (("land", 0), ((("none", 0),), ())))

    def test_somebody_who_holds_a_thing_is_not_held(self):
        self.refused((EMPTY,), (HELD,), thing=OWNER)

    def test_it_is_of_no_other_class_of_the_program(self):
        others = [each for each in vars(errors).values() if isinstance(each, type) and issubclass(each, LawError)]
        for each in others:
            self.assertEqual(issubclass(NotHeld, each), each in (NotHeld, LawError))
        self.assertEqual(NotHeld.__mro__[1:3], (LawError, ValueError))


class Ranks(Checked):
    def test_no_heirs_in_force(self):
        lands = (EMPTY,)
        self.assertEqual(self.deals(lands, (beside(1, 0, OWNER), HELD)), (("land", 0), ()))
        lands, book = world(((calling(0),),), [beside(1, 0, OWNER)], since=DAY + 1)
        self.assertEqual(self.deals(lands, book), (("land", 0), ()))
        self.assertEqual(self.deals(lands, book, day=DAY + 1)[0], ("ones", ((1, (1, 1)),)))

    def test_the_heirs_of_the_greatest_since(self):
        lands = (land(heirs=[(0, ((calling(0),),)), (5, ((calling(1),),)), (DAY, ((calling(2),),))]),)
        book = (beside(1, 0, OWNER), beside(2, 1, OWNER), beside(3, 2, OWNER), HELD)
        for day, one in ((0, 1), (4, 1), (5, 2), (DAY - 1, 2), (DAY, 3), (LAST_DAY, 3)):
            self.assertEqual(self.deals(lands, book, day=day)[0], ("ones", ((one, (1, 1)),)))

    def test_a_first_rank_that_deals(self):
        lands, book = world(((calling(0),), (calling(1),)), [beside(1, 0, OWNER), beside(2, 1, OWNER)])
        self.assertEqual(self.deals(lands, book), (("ones", ((1, (1, 1)),)), ((((1, None, None),),),)))

    def test_a_second_and_a_third_rank(self):
        ranks = ((calling(0),), (calling(1), calling(0, 2)), (calling(2, 3), calling(1)))
        lands, book = world(ranks, [beside(2, 1, OWNER), beside(3, 2, OWNER)])
        self.assertEqual(
            self.deals(lands, book), (("ones", ((2, (1, 1)),)), (((),), (((2, None, None),), ()))),
        )
        lands, book = world(ranks, [beside(3, 2, OWNER)])
        self.assertEqual(
            self.deals(lands, book), (("ones", ((3, (1, 1)),)), (((),), ((), ()), (((3, None, None),), ()))),
        )

    def test_a_rank_whose_ones_all_answer_no_calls_nobody(self):
        ranks = ((calling(0, 1, 1), calling(0, 2, 1)), (calling(0),))
        facts = [beside(1, 0, OWNER), beside(2, 0, OWNER)]
        lands, book = world(ranks, facts)
        dealing, told = self.deals(lands, book)
        self.assertEqual(dealing, ("ones", ((1, (1, 2)), (2, (1, 2)))))
        no = ((("none", 0),), ())
        self.assertEqual(told, ((((1, 0, no), (2, 0, no)),) * 2, (((1, None, None), (2, None, None)),)))

    def test_no_rank_calls_anybody(self):
        ranks = ((calling(0),), (calling(1, 1, 0),), (calling(2),))
        lands, book = world(ranks, [beside(1, 1, OWNER), beside(2, 0, 51)])
        no = ((("none", 0),), ())
        self.assertEqual(self.deals(lands, book), (("land", 0), (((),), (((1, 0, no),),), ((),))))

    def test_the_land_is_the_sources(self):
        ranks = ((calling(0),),)
        for way in (ALONE, TAKEN, COURT):
            lands = (land([(0, 0, 1, way)]), EMPTY, land(heirs=[(0, ranks)]))
            book = (at_once(THING, 1, 2), HELD)
            self.assertTrue(are_lands(lands) and is_book(lands, book))
            self.assertEqual(self.deals(lands, book), (("land", 2), (((),),)))
            self.assertEqual(self.deals(lands, book, court=1), (("land", 1), ()))
            # By kind 1 the first land has no rule.
            self.assertEqual(self.deals(lands, book, kind=1), (("land", 0), ()))
            more = (beside(1, 0, OWNER),) + book
            self.assertEqual(self.deals(lands, more)[0], ("ones", ((1, (1, 1)),)))
            self.assertEqual(self.deals(lands, more, kind=1)[0], ("land", 0))


class Calls(Checked):
    def test_without_a_kind_all_are_called(self):
        customs = [(kind, 0, say(0)) for kind in range(4)]
        lands, book = world(((calling(0),),), [beside(one, 0, OWNER) for one in (1, 5, 99)], customs)
        self.assertEqual(self.deals(lands, book)[0], ("ones", ((1, (1, 3)), (5, (1, 3)), (99, (1, 3)))))

    def test_with_a_kind_each_yes_whatever_it_is(self):
        # By whom role 1 is with, the custom says 0, 1 or 9.
        customs = [(0, 0, say(1)), (2, 0, ask(0, ask(0, say(9), say(1), 2), say(0), 1))]
        facts = [beside(one, 0, OWNER) for one in (1, 2, 3)]
        facts += [beside(2, 1, 70), beside(3, 1, 70), beside(3, 2, 71)]
        lands, book = world(((calling(0, 4, 2),),), facts, customs)
        dealing, ((rows,),) = self.deals(lands, book)
        self.assertEqual(dealing, ("ones", ((2, (1, 2)), (3, (1, 2)))))
        self.assertEqual([row[:2] for row in rows], [(1, 0), (2, 1), (3, 9)])
        for one, answer, tree in rows:
            self.assertEqual((answer, tree), answer_of(lands, book, 0, (2, one, DAY)))

    def test_asked_at_the_seat_and_at_the_source(self):
        # The thing goes alone from land 0 to land 1; at 0 kind 1 is a yes, at 1 kind 2 is one.
        book = (beside(1, 0, OWNER), at_once(THING, 1, 1), HELD)
        for kind, mode, answer in ((1, 0, 3), (1, 1, 0), (2, 0, 0), (2, 1, 4)):
            lands = (
                land([(0, 0, 1, ALONE)], [(1, 0, say(3))], [(0, ((calling(1),),))]),
                land(customs=[(2, 0, say(4))], heirs=[(0, ((calling(0, 2, kind, mode),),))]),
            )
            self.assertTrue(are_lands(lands) and is_book(lands, book))
            dealing, ((rows,),) = self.deals(lands, book)
            self.assertEqual(rows, ((1, answer, ((("none", mode),), ())),))
            self.assertEqual(dealing, ("ones", ((1, (1, 1)),)) if answer else ("land", 1))

    def test_a_one_called_by_two_calls(self):
        facts = [beside(1, 0, OWNER), beside(1, 1, OWNER), beside(2, 0, OWNER), beside(3, 1, OWNER)]
        lands, book = world(((calling(0, 2), calling(1, 5)),), facts)
        dealing, ranks = self.deals(lands, book)
        self.assertEqual(dealing, ("ones", ((1, (1, 2)), (2, (1, 7)), (3, (5, 14)))))
        self.assertEqual(ranks, ((((1, None, None), (2, None, None)), ((1, None, None), (3, None, None))),))

    def test_two_calls_that_are_alike(self):
        facts = [beside(1, 0, OWNER), beside(2, 1, OWNER)]
        lands, book = world(((calling(0, 2), calling(0, 2), calling(1, 3)),), facts)
        dealing, ranks = self.deals(lands, book)
        self.assertEqual(dealing, ("ones", ((1, (4, 7)), (2, (3, 7)))))
        self.assertEqual(ranks, ((((1, None, None),), ((1, None, None),), ((2, None, None),)),))

    def test_a_yes_by_one_call_and_a_no_by_another_of_the_same_role(self):
        customs = [(1, 0, say(1))]
        lands, book = world(((calling(0, 2, 1), calling(0, 7, 2), calling(0, 1)),), [beside(1, 0, OWNER)], customs)
        dealing, ((yes, no, free),) = self.deals(lands, book)
        self.assertEqual(dealing, ("ones", ((1, (1, 1)),)))
        self.assertEqual([yes[0][1], no[0][1], free[0][1]], [1, 0, None])

    def test_the_thing_itself_among_those_that_stand_with_the_holder(self):
        facts = [beside(THING, role, OWNER) for role in range(3)]
        ranks = ((calling(0), calling(1, 1, 0), calling(2)),)
        lands, book = world(ranks, facts, [(0, 0, say(1))])
        self.assertEqual(self.deals(lands, book), (("land", 0), (((), (), ()),)))
        lands, book = world(ranks, facts + [beside(99, 0, OWNER), beside(4, 0, OWNER)])
        dealing, told = self.deals(lands, book)
        self.assertEqual(dealing, ("ones", ((4, (1, 2)), (99, (1, 2)))))
        self.assertEqual(told, ((((4, None, None), (99, None, None)), (), ()),))

    def test_another_thing_of_the_holder_may_be_called(self):
        lands, book = world(((calling(0),),), [beside(61, 3, OWNER), beside(61, 0, OWNER)])
        self.assertEqual(self.deals(lands, book)[0], ("ones", ((61, (1, 1)),)))

    def test_ones_that_stood_with_the_holder_earlier_or_stand_with_another_one(self):
        facts = [
            beside(1, 0, OWNER), beside(1, 0, 51, DAY),
            beside(2, 0, OWNER), at_once(2, 0, 0, DAY),
            beside(3, 0, 51),
            beside(4, 0, OWNER, DAY + 1),
            beside(5, 1, OWNER),
            beside(6, 0, 51), beside(6, 0, OWNER, DAY),
            beside(7, 0, 6), beside(51, 0, 1),
        ]
        lands, book = world(((calling(0),),), facts)
        self.assertEqual(self.deals(lands, book), (("ones", ((6, (1, 1)),)), ((((6, None, None),),),)))
        self.assertEqual([one for one, _ in self.deals(lands, book, day=DAY - 1)[0][1]], [1, 2])
        self.assertEqual([one for one, _ in self.deals(lands, book, day=DAY + 1)[0][1]], [4, 6])

    def test_the_holder_of_the_day_counts(self):
        facts = [beside(THING, 3, 51, DAY), beside(1, 0, OWNER), beside(2, 0, 51)]
        lands, book = world(((calling(0),),), facts)
        self.assertEqual(self.deals(lands, book)[0], ("ones", ((2, (1, 1)),)))
        self.assertEqual(self.deals(lands, book, day=DAY - 1)[0], ("ones", ((1, (1, 1)),)))

    def test_shares_in_lowest_terms(self):
        facts = [beside(1, 0, OWNER), beside(2, 1, OWNER), beside(3, 2, OWNER)]
        for weights, shares in (
            ((2, 4, 6), ((1, 6), (1, 3), (1, 2))), ((9, 9, 9), ((1, 3),) * 3), ((1, 1, 2), ((1, 4), (1, 4), (1, 2))),
            ((3, 6, 9), ((1, 6), (1, 3), (1, 2))), ((1, 2, 4), ((1, 7), (2, 7), (4, 7))),
            ((9, 8, 7), ((3, 8), (1, 3), (7, 24))),
        ):
            lands, book = world((tuple(calling(role, weight) for role, weight in enumerate(weights)),), facts)
            self.assertEqual(self.deals(lands, book)[0], ("ones", tuple(zip((1, 2, 3), shares))))


class ManyWorlds(Checked):
    def test_as_the_second_telling_tells(self):
        words, depths, held, unheld = set(), set(), 0, 0
        for lands, book in full_worlds(60, 71):
            self.assertTrue(are_lands(lands) and is_book(lands, book))
            for thing in range(FOLK + 1):
                for court in range(len(lands)):
                    kind, day = (thing + court) % 4, (thing * court) % (LAST_WORLD_DAY + 1)
                    due = plain_dealt(lands, book, court, kind, thing, day)
                    if due is None:
                        unheld += 1
                        self.assertRaises(NotHeld, dealt, lands, book, court, kind, thing, day)
                        continue
                    held += 1
                    dealing, ranks = self.deals(lands, book, court, kind, thing, day)
                    words.add(dealing[0])
                    depths.add((dealing[0], len(ranks)))
                    if dealing[0] == "ones":
                        self.assertEqual(sum(Fraction(*share) for _, share in dealing[1]), 1)
        self.assertEqual(words, {"land", "ones"})
        self.assertEqual(depths, {("land", many) for many in range(4)} | {("ones", many) for many in (1, 2, 3)})
        self.assertGreater(min(held, unheld), 400)

    def test_asked_again_behind_others_it_tells_the_same(self):
        calls = [
            (lands, book, court, kind, thing, LAST_WORLD_DAY)
            for lands, book in full_worlds(15, 72)
            for thing in range(FOLK) if held_by(book, thing, LAST_WORLD_DAY) is not None
            for court in range(len(lands)) for kind in (0, 3)
        ]
        kept = copy.deepcopy(calls)
        first = [dealt(*call) for call in calls]
        for place in shuffled(len(calls), 73):
            self.assertEqual(dealt(*calls[place]), first[place])
        self.assertEqual(calls, kept)
        self.assertGreater(len(calls), 200)


class Bounds(Checked):
    def test_forty_kin_and_three_ranks_of_three_calls(self):
        ranks = tuple(tuple(calling(role, 9, 3, 1) for role in range(3)) for _ in range(3))
        custom = (3, 0, ask(2, say(0), say(0)))
        lands = tuple(land([(3, 0, 0, COURT)], asking_most()[:3] + [custom], [(LAST_DAY, ranks)]) for _ in range(5))
        kin = [one for one in range(100) if one not in (0, 99)][:40]
        facts = [beside(one, 0, 99) for one in kin[:19]] + [beside(one, 1, 99) for one in kin[19:]]
        facts += [at_once(one, 0, 4) for one in kin[19:]][:18] + [beside(0, 3, 99, LAST_DAY), at_once(99, 0, 3)]
        book = tuple(sorted(facts))
        self.assertEqual(len(book), 60)
        self.assertTrue(are_lands(lands) and is_book(lands, book))
        dealing, told = self.deals(lands, book, 4, 3, 0, LAST_DAY)
        self.assertEqual(dealing, ("land", 4))
        self.assertEqual([[len(rows) for rows in rank] for rank in told], [[19, 21, 0]] * 3)
        self.assertEqual({answer for rank in told for rows in rank for _, answer, _ in rows}, {0})

    def test_forty_kin_who_all_are_called(self):
        ranks = ((calling(0, 9), calling(1, 9), calling(2, 9)),) * 3
        lands = (EMPTY,) * 4 + (land(heirs=[(0, ranks)]),)
        ones = [one for one in range(99) if one != 50][:39] + [99]
        book = tuple(sorted([beside(one, one % 3, 50) for one in ones] + [beside(98, 3, 50)]))
        self.assertTrue(are_lands(lands) and is_book(lands, book))
        dealing, told = self.deals(lands, book, 4, 0, 98, LAST_DAY)
        self.assertEqual(dealing, ("ones", tuple((one, (1, 40)) for one in ones)))
        self.assertEqual((ones[0], ones[-1], len(told)), (0, 99, 1))
        self.assertEqual(sum(len(rows) for rows in told[0]), 40)

    def test_weights_of_one_and_of_nine_on_day_nought(self):
        facts = [beside(one, 0, OWNER) for one in range(1, 40)] + [beside(0, 1, OWNER)]
        lands, book = world(((calling(0, 9), calling(1, 1)),), facts)
        self.assertEqual(self.deals(lands, book, day=0)[0],
                         ("ones", ((0, (1, 352)),) + tuple((one, (9, 352)) for one in range(1, 40))))
        self.assertEqual(plain_with(book, 1, OWNER, 0), [0])


if __name__ == "__main__":
    unittest.main()
