import unittest

from plain import plain_chain, plain_decided, plain_step
from samples import EMPTY, at_once, is_plain, land, put_at
from whoselaw.chainpaper import chain_holds, seat_and_source
from whoselaw.chains import chain_of, decided, step_of
from whoselaw.facts import is_book
from whoselaw.lands import are_lands
from whoselaw.trails import trail_of
from worlds import asked, shuffled, thrown_calls, thrown_worlds

LAST_DAY = 10 ** 9
ALONE, TAKEN, COURT = range(3)
KIND, WHO, DAY = 1, 7, 10
QUESTION = (KIND, WHO, DAY)


def rule(role, way, since=5, kind=KIND):
    return (kind, since, role, way)


def leading(*places):
    """A book in which each role of WHO, from 0 on, is in the land given for it (None: nowhere)."""
    return tuple(at_once(WHO, role, place, 3) for role, place in enumerate(places) if place is not None)


def trail_to(place, role):
    return ("in", place, (at_once(WHO, role, place, 3),))


class Checked(unittest.TestCase):
    def same_step(self, lands, book, number, step, question=QUESTION):
        self.assertTrue(are_lands(lands))
        self.assertTrue(is_book(lands, book))
        for _ in range(2):
            told = step_of(lands, book, number, question)
            self.assertEqual(told, step)
            self.assertTrue(is_plain(told))
        self.assertEqual(plain_step(lands, book, number, question), step)

    def same_chain(self, lands, book, court, chain, question=QUESTION):
        self.assertTrue(are_lands(lands))
        self.assertTrue(is_book(lands, book))
        self.told_chain(lands, book, court, chain, question)
        self.assertEqual(plain_chain(lands, book, court, question), chain)

    def told_chain(self, lands, book, court, chain, question=QUESTION):
        for _ in range(2):
            told = chain_of(lands, book, court, question)
            self.assertEqual(told, chain)
            self.assertTrue(is_plain(told))
            self.assertIs(chain_holds(lands, book, court, question, chain), True)

    def decides(self, lands, book, court, told, question=QUESTION):
        self.assertTrue(are_lands(lands))
        self.assertTrue(is_book(lands, book))
        chain = chain_of(lands, book, court, question)
        for _ in range(2):
            self.assertEqual(decided(lands, book, court, question), told)
            self.assertEqual(seat_and_source(lands, question, chain), told)
        self.assertIs(type(decided(lands, book, court, question)), tuple)
        self.assertTrue(is_plain(decided(lands, book, court, question)))
        self.assertIs(type(seat_and_source(lands, question, chain)), tuple)
        self.assertEqual(plain_decided(lands, question, chain), told)


class Steps(Checked):
    def test_none_without_a_rule_in_force(self):
        book = leading(1, 1, 1)
        self.same_step((EMPTY, EMPTY), book, 0, ("none", 0))
        self.same_step((EMPTY, EMPTY), book, 1, ("none", 1))
        later = land([rule(0, COURT, since=11)])
        self.same_step((later, EMPTY), book, 0, ("none", 0))
        others = land([rule(0, COURT, kind=kind) for kind in (0, 2, 3)])
        self.same_step((others, EMPTY), book, 0, ("none", 0))

    def test_open_by_an_open_trail(self):
        for way in range(3):
            lands = (land([rule(0, way)]), EMPTY)
            self.same_step(lands, (), 0, ("open", 0, ("open", WHO, ())))
            self.same_step(lands, leading(None, 1), 0, ("open", 0, ("open", WHO, ())))
            first, then = (2, 0, 10, ("with", 4)), (WHO, 0, 10, ("with", 2))
            self.same_step(lands, (first, then), 0, ("open", 0, ("open", 4, (then, first))))
            self.same_step(lands, (at_once(WHO, 0, 1, 11),), 0, ("open", 0, ("open", WHO, ())))

    def test_open_by_a_round(self):
        first, then = (2, 0, 10, ("with", WHO)), (WHO, 0, 10, ("with", 2))
        for way in range(3):
            lands = (EMPTY, land([rule(0, way)]), EMPTY)
            step = ("open", 1, ("round", WHO, (then, first)))
            self.same_step(lands, (first, then), 1, step)

    def test_a_trail_that_ends_at_a_one_of_a_lands_number_names_no_land(self):
        with_a_one = (WHO, 0, 0, ("with", 1))
        for number in (0, 1):
            lands = put_at((EMPTY, EMPTY), (number,), land([rule(0, COURT)]))
            self.same_step(lands, (with_a_one,), number, ("open", number, ("open", 1, (with_a_one,))))

    def test_self_whatever_the_way(self):
        for way in range(3):
            lands = (EMPTY, land([rule(0, way)]))
            self.same_step(lands, leading(1), 1, ("self", 1, trail_to(1, 0)))

    def test_alone_and_court(self):
        for way, word in ((ALONE, "alone"), (COURT, "court")):
            lands = (EMPTY, EMPTY, land([rule(1, way)]))
            self.same_step(lands, leading(2, 0, 1), 2, (word, 2, trail_to(0, 1)))
            self.same_step(lands, leading(2, 1, 0), 2, (word, 2, trail_to(1, 1)))

    def test_the_role_is_that_of_the_rule(self):
        for role in range(3):
            lands = (land([rule(role, ALONE)]), EMPTY, EMPTY, EMPTY)
            self.same_step(lands, leading(1, 2, 3), 0, ("alone", 0, trail_to(role + 1, role)))

    def test_the_whole_trail_is_within(self):
        facts = ((WHO, 2, 4, ("with", 3)), (3, 2, 10, ("with", 9)), (9, 2, 0, ("in", 1)))
        beside = ((3, 2, 11, ("in", 0)), (WHO, 1, 0, ("in", 0)), (9, 2, 11, ("in", 0)))
        book = tuple(sorted(facts + beside))
        trail = ("in", 1, facts)
        self.same_step((land([rule(2, COURT)]), EMPTY), book, 0, ("court", 0, trail))
        self.same_step((land([rule(2, ALONE)]), EMPTY), book, 0, ("alone", 0, trail))
        self.same_step((EMPTY, land([rule(2, ALONE)])), book, 1, ("self", 1, trail))
        lands = (land([rule(2, TAKEN)]), land([rule(2, COURT)]))
        self.same_step(lands, book, 0, ("taken", 0, trail, ("self", 1, trail)))

    def test_a_rule_of_the_very_day_and_of_the_day_behind(self):
        lands = (land([rule(0, ALONE, 4), rule(1, COURT, 10), rule(2, ALONE, 11)]), EMPTY, EMPTY, EMPTY)
        book = leading(1, 2, 3)
        self.same_step(lands, book, 0, ("none", 0), (KIND, WHO, 3))
        self.same_step(lands, book, 0, ("alone", 0, trail_to(1, 0)), (KIND, WHO, 4))
        self.same_step(lands, book, 0, ("alone", 0, trail_to(1, 0)), (KIND, WHO, 9))
        self.same_step(lands, book, 0, ("court", 0, trail_to(2, 1)), (KIND, WHO, 10))
        self.same_step(lands, book, 0, ("alone", 0, trail_to(3, 2)), (KIND, WHO, 11))
        self.same_step(lands, book, 0, ("alone", 0, trail_to(3, 2)), (KIND, WHO, LAST_DAY))

    def test_rules_of_other_kinds_beside(self):
        rules = [rule(0, ALONE, 9, 0), rule(1, COURT, 2, 1), rule(2, ALONE, 10, 2), rule(2, COURT, 0, 3)]
        lands = (land(rules), EMPTY, EMPTY, EMPTY)
        book = leading(1, 2, 3)
        expected = (
            ("alone", 0, trail_to(1, 0)), ("court", 0, trail_to(2, 1)),
            ("alone", 0, trail_to(3, 2)), ("court", 0, trail_to(3, 2)),
        )
        for kind, step in enumerate(expected):
            self.same_step(lands, book, 0, step, (kind, WHO, DAY))


class Taken(Checked):
    first = land([rule(0, TAKEN)])

    def next_is(self, other, book, course, third=EMPTY):
        step = ("taken", 0, trail_to(1, 0), course)
        self.same_step((self.first, other, third), book, 0, step)

    def test_none(self):
        self.next_is(EMPTY, leading(1), ("none", 1))
        self.next_is(land([rule(1, COURT, kind=0), rule(1, COURT, since=11)]), leading(1, 2), ("none", 1))

    def test_open(self):
        for way in range(3):
            other = land([rule(1, way)])
            self.next_is(other, leading(1), ("open", 1, ("open", WHO, ())))
            there, back = (WHO, 1, 3, ("with", 8)), (8, 1, 3, ("with", WHO))
            book = leading(1) + (there, back)
            self.next_is(other, book, ("open", 1, ("round", WHO, (there, back))))

    def test_self(self):
        for way in range(3):
            self.next_is(land([rule(1, way)]), leading(1, 1), ("self", 1, trail_to(1, 1)))
            self.next_is(land([rule(0, way)]), leading(1), ("self", 1, trail_to(1, 0)))

    def test_named_whatever_the_way(self):
        for way in range(3):
            for place in (0, 2):
                for third in (EMPTY, land([rule(2, COURT)])):
                    course = ("named", 1, trail_to(place, 1))
                    self.next_is(land([rule(1, way)]), leading(1, place, 1), course, third)

    def test_the_other_lands_rule_of_the_very_day(self):
        other = land([rule(0, COURT, 4), rule(1, ALONE, 10), rule(2, ALONE, 11)])
        self.next_is(other, leading(1, 2, 0), ("named", 1, trail_to(2, 1)))

    def test_two_lands_that_take_from_each_other(self):
        lands = (land([rule(0, TAKEN)]), land([rule(1, TAKEN)]))
        book = leading(1, 0)
        there, back = trail_to(1, 0), trail_to(0, 1)
        self.same_step(lands, book, 0, ("taken", 0, there, ("named", 1, back)))
        self.same_step(lands, book, 1, ("taken", 1, back, ("named", 0, there)))


def court_to(number, place, role):
    return ("court", number, trail_to(place, role))


class Chains(Checked):
    def test_one_step(self):
        book = leading(1, 0, None)
        there, back = trail_to(1, 0), trail_to(0, 1)
        for rules, step in (
            ([], ("none", 0)),
            ([rule(2, COURT)], ("open", 0, ("open", WHO, ()))),
            ([rule(1, COURT)], ("self", 0, back)),
            ([rule(0, ALONE)], ("alone", 0, there)),
            ([rule(0, TAKEN)], ("taken", 0, there, ("named", 1, back))),
        ):
            self.same_chain((land(rules), land([rule(1, COURT)])), book, 0, (step,))

    def test_several_steps_that_end_with_each_other_word(self):
        book = leading(2, 1, 3)
        to_two, to_one, to_three = trail_to(2, 0), trail_to(1, 1), trail_to(3, 2)
        for rules, step in (
            ([], ("none", 1)),
            ([rule(1, COURT)], ("self", 1, to_one)),
            ([rule(2, ALONE)], ("alone", 1, to_three)),
            ([rule(2, TAKEN)], ("taken", 1, to_three, ("none", 3))),
            ([rule(0, TAKEN)], ("taken", 1, to_two, ("named", 2, to_one))),
        ):
            lands = (land([rule(0, COURT)]), land(rules), land([rule(1, COURT)]), EMPTY)
            self.same_chain(lands, book, 0, (court_to(0, 2, 0), court_to(2, 1, 1), step))
            self.same_chain(lands, book, 2, (court_to(2, 1, 1), step))
            self.same_chain(lands, book, 1, (step,))

    def test_several_steps_that_end_open(self):
        lands = (land([rule(0, COURT)]), land([rule(2, COURT)]))
        self.same_chain(lands, leading(1), 0, (court_to(0, 1, 0), ("open", 1, ("open", WHO, ()))))

    def test_the_longest_chain_that_three_roles_lead_to(self):
        lands = tuple(land([rule(role, COURT)]) for role in (0, 1, 2)) + (EMPTY, EMPTY)
        steps = (court_to(0, 1, 0), court_to(1, 2, 1), court_to(2, 4, 2), ("none", 4))
        for court in range(3):
            self.same_chain(lands, leading(1, 2, 4), court, steps[court:])
        self.same_chain(lands, leading(1, 2, 4), 4, steps[3:])
        self.same_chain(lands, leading(1, 2, 4), 3, (("none", 3),))

    def test_a_round_of_two(self):
        lands = (land([rule(0, COURT)]), land([rule(1, COURT)]))
        first, then = court_to(0, 1, 0), court_to(1, 0, 1)
        self.same_chain(lands, leading(1, 0), 0, (first, then))
        self.same_chain(lands, leading(1, 0), 1, (then, first))

    def test_a_round_of_three(self):
        lands = tuple(land([rule(role, COURT)]) for role in (0, 1, 2))
        steps = (court_to(0, 1, 0), court_to(1, 2, 1), court_to(2, 0, 2))
        for court in range(3):
            self.same_chain(lands, leading(1, 2, 0), court, steps[court:] + steps[:court])

    def test_a_round_of_five(self):
        # A round has a land for each role at most, so five are come to by roles that are beyond a rule's.
        lands = tuple(land([rule(role, COURT)]) for role in range(5))
        book = leading(1, 2, 3, 4, 0)
        steps = tuple(court_to(number, (number + 1) % 5, number) for number in range(5))
        for court in range(5):
            self.told_chain(lands, book, court, steps[court:] + steps[:court])
            self.assertEqual(decided(lands, book, court, QUESTION), (0, 0))

    def test_a_round_that_some_lands_lead_to(self):
        rules = ((0, COURT), (1, COURT), (2, COURT), (1, COURT), (0, COURT))
        lands = tuple(land([rule(role, way)]) for role, way in rules)
        book = leading(1, 2, 1)
        first, then, third = court_to(0, 1, 0), court_to(1, 2, 1), court_to(2, 1, 2)
        self.same_chain(lands, book, 0, (first, then, third))
        self.same_chain(lands, book, 1, (then, third))
        self.same_chain(lands, book, 2, (third, then))
        self.same_chain(lands, book, 3, (court_to(3, 2, 1), third, then))
        self.same_chain(lands, book, 4, (court_to(4, 1, 0), then, third))

    def test_a_round_that_two_lands_lead_to_one_behind_the_other(self):
        lands = (land([rule(0, COURT)]), land([rule(1, COURT)]), land([rule(2, COURT)]), land([rule(1, COURT)]))
        book = leading(1, 2, 3)
        steps = (court_to(0, 1, 0), court_to(1, 2, 1), court_to(2, 3, 2), court_to(3, 2, 1))
        self.same_chain(lands, book, 0, steps)

    def test_it_ends_ahead_of_a_land_that_has_a_step_already(self):
        lands = (land([rule(0, COURT)]), land([rule(1, COURT)]), EMPTY)
        self.same_chain(lands, leading(1, 0), 0, (court_to(0, 1, 0), court_to(1, 0, 1)))
        self.same_chain(lands, leading(1, 2), 0, (court_to(0, 1, 0), court_to(1, 2, 1), ("none", 2)))

    def test_it_ends_behind_alone_and_taken_whatever_the_land_named_would_do(self):
        for way in (ALONE, TAKEN):
            lands = (land([rule(0, way)]), land([rule(1, COURT)]), EMPTY)
            self.assertEqual(len(chain_of(lands, leading(1, 2), 0, QUESTION)), 1)

    def test_by_another_kind_one_or_day(self):
        lands = (land([rule(0, COURT), rule(0, ALONE, since=11), rule(1, COURT, kind=2)]), EMPTY, EMPTY)
        book = leading(1, 2)
        self.same_chain(lands, book, 0, (court_to(0, 1, 0), ("none", 1)))
        self.same_chain(lands, book, 0, (("alone", 0, trail_to(1, 0)),), (KIND, WHO, 11))
        self.same_chain(lands, book, 0, (court_to(0, 2, 1), ("none", 2)), (2, WHO, DAY))
        self.same_chain(lands, book, 0, (("open", 0, ("open", 8, ())),), (KIND, 8, DAY))
        self.same_chain(lands, book, 0, (("none", 0),), (KIND, WHO, 4))


class Decided(Checked):
    def test_none_open_and_self(self):
        lands = (land([rule(0, COURT)]), EMPTY)
        self.decides(lands, leading(1), 1, (1, 1))
        self.decides(lands, leading(1), 0, (1, 1))
        self.decides(lands, (), 0, (0, 0))
        self.decides(lands, leading(0), 0, (0, 0))
        ends = (lands[0], land([rule(1, COURT)]))
        self.decides(ends, leading(1), 0, (1, 1))
        self.decides(ends, leading(1, 1), 0, (1, 1))

    def test_alone(self):
        lands = (land([rule(0, COURT)]), land([rule(1, ALONE)]), EMPTY)
        self.decides(lands, leading(1, 2), 1, (1, 2))
        self.decides(lands, leading(1, 2), 0, (1, 2))
        self.decides(lands, leading(1, 0), 0, (1, 0))

    def test_taken_with_each_next(self):
        first = land([rule(0, TAKEN)])
        for rules, book, source in (
            ([], leading(1), 1),
            ([rule(2, ALONE)], leading(1), 1),
            ([rule(1, ALONE)], leading(1, 1), 1),
            ([rule(1, ALONE)], leading(1, 2), 2),
            ([rule(1, TAKEN)], leading(1, 2), 2),
            ([rule(1, COURT)], leading(1, 2), 2),
            ([rule(1, COURT)], leading(1, 0), 0),
        ):
            self.decides((first, land(rules), EMPTY), book, 0, (0, source))

    def test_taken_at_the_end_of_a_chain(self):
        lands = (land([rule(0, COURT)]), land([rule(1, TAKEN)]), land([rule(2, ALONE)]), EMPTY)
        self.decides(lands, leading(1, 2, 3), 0, (1, 3))
        self.decides(lands, leading(1, 2, 0), 0, (1, 0))
        self.decides(lands, leading(1, 2, 1), 0, (1, 1))
        self.decides(lands, leading(1, 2, 2), 0, (1, 2))
        self.decides(lands, leading(1, 2), 0, (1, 2))

    def test_the_source_taken_from_is_not_asked_further(self):
        lands = (land([rule(0, TAKEN)]), land([rule(1, TAKEN)]), land([rule(2, ALONE)]), EMPTY)
        self.decides(lands, leading(1, 2, 3), 0, (0, 2))

    def ring(self, *sinces):
        return tuple(land([rule(role, COURT, since=since)]) for role, since in enumerate(sinces))

    def test_the_eldest_land_of_a_round(self):
        for sinces, eldest in (((5, 4, 6), 1), ((5, 6, 4), 2), ((4, 5, 6), 0), ((10, 9, 0), 2), ((9, 10, 10), 0)):
            for court in range(3):
                self.decides(self.ring(*sinces), leading(1, 2, 0), court, (eldest, eldest))
        for court in range(2):
            self.decides(self.ring(6, 5), leading(1, 0), court, (1, 1))

    def test_of_like_sinces_the_one_with_the_least_number(self):
        for sinces, eldest in (((5, 5, 5), 0), ((6, 5, 5), 1), ((5, 6, 5), 0), ((5, 5, 6), 0)):
            for court in range(3):
                self.decides(self.ring(*sinces), leading(1, 2, 0), court, (eldest, eldest))

    def test_the_since_is_that_of_the_rule_in_force(self):
        first = land([rule(2, ALONE, 0), rule(0, COURT, 8), rule(0, COURT, 11)])
        then = land([rule(0, COURT, 0, 0), rule(1, COURT, 7)])
        self.decides((first, then), leading(1, 0), 0, (1, 1))
        self.decides((first, then), leading(1, 0), 1, (1, 1))

    def test_elder_lands_that_lead_to_the_round_are_not_of_it(self):
        lands = (
            land([rule(0, COURT, 0)]), land([rule(0, COURT, 1)]), land([rule(0, COURT, 0)]),
            land([rule(1, COURT, 7)]), land([rule(2, COURT, 6)]),
        )
        book = leading(3, 4, 3)
        for court in range(5):
            self.decides(lands, book, court, (4, 4))
        later = put_at(lands, (4,), land([rule(2, COURT, 7)]))
        for court in range(5):
            self.decides(later, book, court, (3, 3))

    def test_two_elder_lands_one_behind_the_other(self):
        lands = (
            land([rule(0, COURT, 0)]), land([rule(1, COURT, 1)]), land([rule(2, COURT, 9)]),
            land([rule(1, COURT, 8)]),
        )
        self.decides(lands, leading(1, 2, 3), 0, (3, 3))


class Bounds(Checked):
    def test_five_lands_of_twelve_rules(self):
        rules = [rule((since + kind) % 3, (since + 1) % 3, LAST_DAY - 2 + since, kind)
                 for kind in range(4) for since in range(3)]
        lands = (land(rules),) * 5
        book = leading(4, 0, 2)
        self.assertTrue(are_lands(lands) and is_book(lands, book))
        for court in range(5):
            for kind in range(4):
                for day in (0, LAST_DAY - 3, LAST_DAY - 2, LAST_DAY - 1, LAST_DAY):
                    question = (kind, WHO, day)
                    chain = plain_chain(lands, book, court, question)
                    self.same_chain(lands, book, court, chain, question)
                    self.decides(lands, book, court, plain_decided(lands, question, chain), question)

    def test_a_trail_of_sixty_facts(self):
        facts = tuple((who, 2, 0, ("with", who - 1)) for who in range(41, 100))
        last = (40, 2, 0, ("in", 4))
        lands = (land([(3, 0, 2, COURT)]), EMPTY, EMPTY, EMPTY, land([(3, LAST_DAY, 2, COURT)]))
        book = (last,) + facts
        self.assertEqual(len(book), 60)
        trail = ("in", 4, (facts[::-1] + (last,)))
        chain = (("court", 0, trail), ("none", 4))
        self.same_chain(lands, book, 0, chain, (3, 99, 0))
        chain = (("court", 0, trail), ("self", 4, trail))
        self.same_chain(lands, book, 0, chain, (3, 99, LAST_DAY))
        self.decides(lands, book, 0, (4, 4), (3, 99, LAST_DAY))
        for back in (99, 70, 41):
            turned = ((40, 2, 0, ("with", back)),) + facts
            trail = ("round", back, facts[::-1] + turned[:1])
            self.same_chain(lands, turned, 0, (("open", 0, trail),), (3, 99, 0))

    def test_taken_with_two_trails_of_thirty_facts(self):
        ways = [tuple((who, role, 0, ("with", who + 1)) for who in range(29)) for role in (0, 1)]
        ends = [(29, 0, 0, ("in", 1)), (29, 1, 0, ("in", 2))]
        book = tuple(sorted(ways[0] + ways[1] + tuple(ends)))
        self.assertEqual(len(book), 60)
        lands = (land([(0, 0, 0, TAKEN)]), land([(0, 0, 1, TAKEN)]), EMPTY)
        step = ("taken", 0, ("in", 1, ways[0] + (ends[0],)), ("named", 1, ("in", 2, ways[1] + (ends[1],))))
        self.same_chain(lands, book, 0, (step,), (0, 0, 0))
        self.decides(lands, book, 0, (0, 2), (0, 0, 0))

    def test_the_first_and_the_last_one_day_and_kind(self):
        for kind in (0, 3):
            for who in (0, 99):
                for day in (0, LAST_DAY):
                    lands = (land([(kind, day, 0, ALONE)]), EMPTY)
                    fact = (who, 0, day, ("in", 1))
                    question = (kind, who, day)
                    self.same_chain(lands, (fact,), 0, (("alone", 0, ("in", 1, (fact,))),), question)
                    self.decides(lands, (fact,), 0, (0, 1), question)

    def test_one_land(self):
        lands = (land([rule(0, COURT)]),)
        self.same_chain(lands, leading(0), 0, (("self", 0, trail_to(0, 0)),))
        self.same_chain((EMPTY,), (), 0, (("none", 0),))

    def test_what_is_somewhat_beyond(self):
        lands = (land([rule(0, COURT)]), EMPTY)
        for court in (-1, 2, 5):
            self.assertEqual(chain_of(lands, leading(1), court, QUESTION), (("none", court),))
            self.assertEqual(decided(lands, leading(1), court, QUESTION), (court, court))
        self.assertEqual(step_of(lands, leading(1), 0, (4, WHO, DAY)), ("none", 0))
        self.assertEqual(step_of(lands, leading(1), 0, (KIND, 100, DAY)), ("open", 0, ("open", 100, ())))
        self.assertEqual(step_of(lands, leading(1), 0, (KIND, WHO, -1)), ("none", 0))
        self.assertEqual(step_of(lands, leading(1), 0, (KIND, WHO, LAST_DAY + 1)), court_to(0, 1, 0))


class ManyWorlds(Checked):
    def test_as_the_documents_words(self):
        seen = set()
        for lands, book in thrown_worlds(80, 3):
            for court, question in asked(lands):
                chain = plain_chain(lands, book, court, question)
                last = chain[-1]
                seen.add((min(len(chain), 3), last[0], last[3][0] if last[0] == "taken" else None))
                self.assertEqual(chain_of(lands, book, court, question), chain)
                self.assertEqual(step_of(lands, book, court, question), chain[0])
                told = plain_decided(lands, question, chain)
                self.assertEqual(decided(lands, book, court, question), told)
                self.assertEqual(seat_and_source(lands, question, chain), told)
        self.assertGreaterEqual(len(seen), 20)

    def test_asked_again_in_another_order(self):
        calls = thrown_calls(6, 4)
        told = [(step_of(*call), chain_of(*call), decided(*call)) for call in calls]
        for place in shuffled(len(calls), 5):
            call = calls[place]
            self.assertEqual((step_of(*call), chain_of(*call), decided(*call)), told[place])

    def test_the_trails_are_those_that_are_told(self):
        for lands, book in thrown_worlds(10, 6):
            for court, question in asked(lands):
                step = step_of(lands, book, court, question)
                if step[0] != "none":
                    role = plain_role(lands, court, question)
                    self.assertEqual(step[2], trail_of(book, (question[1], role), question[2]))


def plain_role(lands, number, question):
    kind, _, day = question
    return [each for each in lands[number][0] if each[0] == kind and each[1] <= day][-1][2]


if __name__ == "__main__":
    unittest.main()
