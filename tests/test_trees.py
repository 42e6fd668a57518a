import unittest

from plain import plain_answer
from samples import EMPTY, NO, YES, ask, asking_most, at_once, is_plain, land, put_at, say
from whoselaw.facts import is_book
from whoselaw.lands import are_lands
from whoselaw.treepaper import tree_holds
from whoselaw.trees import answer_of
from worlds import asked, shuffled, thrown_calls, thrown_worlds

ALONE, TAKEN, COURT = range(3)
LAST_DAY = 10 ** 9
WHO, DAY = 7, 10


def none_tree(court, *entries):
    """The tree of a court that has no rule in force."""
    return ((("none", court),), entries)


class Checked(unittest.TestCase):
    def tells(self, lands, book, court, question, answer, tree):
        self.assertTrue(are_lands(lands))
        self.assertTrue(is_book(lands, book))
        for _ in range(2):
            told = answer_of(lands, book, court, question)
            self.assertEqual(told, (answer, tree))
            self.assertTrue(is_plain(told))
            self.assertIs(tree_holds(lands, book, court, question, answer, tree), True)
        self.assertEqual(plain_answer(lands, book, court, question), (answer, tree))


class Says(Checked):
    def test_a_say_alone(self):
        for answer in range(10):
            for kind in range(4):
                lands = (EMPTY, land(customs=[(kind, 5, say(answer))]))
                self.tells(lands, (), 1, (kind, WHO, DAY), answer, none_tree(1))

    def test_no_custom_in_force(self):
        for customs in ([], [(1, 11, YES)], [(0, 5, YES), (2, 5, YES)]):
            self.tells((EMPTY, land(customs=customs)), (), 1, (1, WHO, DAY), 0, none_tree(1))

    def test_a_custom_of_the_very_day_and_of_the_day_behind(self):
        lands = (land(customs=[(1, 4, say(4)), (1, 10, say(5)), (1, 11, say(6))]),)
        for day, answer in ((3, 0), (4, 4), (9, 4), (10, 5), (11, 6), (LAST_DAY, 6)):
            self.tells(lands, (), 0, (1, WHO, day), answer, none_tree(0))

    def test_the_saying_is_the_sources(self):
        fact = at_once(WHO, 0, 1)
        trail = ("in", 1, (fact,))
        first, then, third = (land(customs=[(1, 0, say(answer))]) for answer in (3, 4, 5))
        ruled = put_at(first, (0,), ((1, 0, 0, ALONE),))
        self.tells((ruled, then), (fact,), 0, (1, WHO, DAY), 4, ((("alone", 0, trail),), ()))
        ruled = put_at(first, (0,), ((1, 0, 0, COURT),))
        self.tells((ruled, then), (fact,), 0, (1, WHO, DAY), 4, ((("court", 0, trail), ("none", 1)), ()))
        other = put_at(then, (0,), ((1, 0, 1, ALONE),))
        ruled = put_at(first, (0,), ((1, 0, 0, TAKEN),))
        far = at_once(WHO, 1, 2)
        course = ("named", 1, ("in", 2, (far,)))
        tree = ((("taken", 0, trail, course),), ())
        self.tells((ruled, other, third), (fact, far), 0, (1, WHO, DAY), 5, tree)
        self.tells((ruled, then), (), 0, (1, WHO, DAY), 3, ((("open", 0, ("open", WHO, ())),), ()))

    def test_no_custom_in_the_source_but_in_the_seat(self):
        fact = at_once(WHO, 0, 1)
        lands = (land([(1, 0, 0, ALONE)], [(1, 0, YES)]), EMPTY)
        self.tells(lands, (fact,), 0, (1, WHO, DAY), 0, ((("alone", 0, ("in", 1, (fact,))),), ()))


class AsksOfTheSameOne(Checked):
    def test_a_yes_and_a_no(self):
        for inner in range(10):
            lands = (land(customs=[(0, 0, say(inner)), (1, 0, ask(0, say(3), say(4)))]),)
            tree = none_tree(0, ("same", none_tree(0)))
            self.tells(lands, (), 0, (1, WHO, DAY), 3 if inner else 4, tree)

    def test_no_custom_for_what_is_asked_leads_to_no(self):
        lands = (land(customs=[(2, 0, ask(1, say(3), say(4)))]),)
        self.tells(lands, (), 0, (2, WHO, DAY), 4, none_tree(0, ("same", none_tree(0))))

    def test_by_the_day_of_the_question(self):
        lands = (land(customs=[(0, 9, say(0)), (0, 10, say(1)), (0, 11, say(0)), (1, 0, ask(0, say(3), say(4)))]),)
        for day, answer in ((8, 4), (9, 4), (10, 3), (11, 4)):
            self.tells(lands, (), 0, (1, WHO, day), answer, none_tree(0, ("same", none_tree(0))))

    def test_what_stands_of_roles_is_nothing_to_it(self):
        lands = (land(customs=[(0, 0, YES), (1, 0, ask(0, say(3), say(4)))]),)
        book = tuple((WHO, role, 0, ("with", 3)) for role in range(4))
        self.tells(lands, book, 0, (1, WHO, DAY), 3, none_tree(0, ("same", none_tree(0))))


class AsksOfAnotherOne(Checked):
    def knowing(self, role, one, mode=0):
        """Lands whose court says yes to kind 0 of this one only: it is in land 1, others are in none."""
        customs = [(0, 0, NO), (1, 0, ask(0, say(3), say(4), role, mode))]
        return (land([(0, 0, 2, ALONE)], customs), land(customs=[(0, 0, YES)])), at_once(one, 2, 1)

    def test_by_each_role(self):
        for role in range(4):
            for one in (3, 9):
                lands, there = self.knowing(role, 3)
                fact = (WHO, role, 2, ("with", one))
                others = [(WHO, other, 2, ("in", 0)) for other in range(4) if other != role]
                book = tuple(sorted([there, fact] + others))
                inner = ("alone", 0, ("in", 1, (there,))) if one == 3 else ("open", 0, ("open", 9, ()))
                tree = none_tree(0, ("with", fact, ((inner,), ())))
                self.tells(lands, book, 0, (1, WHO, DAY), 3 if one == 3 else 4, tree)

    def test_nobody_since_nothing_stands(self):
        for role in range(4):
            for book in (
                (), ((WHO, role, 11, ("with", 3)),), ((3, role, 0, ("with", WHO)),),
                ((WHO, (role + 1) % 4, 0, ("with", 3)),),
            ):
                lands = (land(customs=[(0, 0, YES), (1, 0, ask(0, say(3), say(4), role))]),)
                self.tells(lands, book, 0, (1, WHO, DAY), 4, none_tree(0, ("nobody", None)))

    def test_nobody_since_it_stands_in_a_land(self):
        for role in range(4):
            for place in (0, 1):
                fact = at_once(WHO, role, place, DAY)
                elder = (WHO, role, 9, ("with", 3))
                lands = (land(customs=[(0, 0, YES), (1, 0, ask(0, say(3), say(4), role))]), EMPTY)
                self.tells(lands, (elder, fact), 0, (1, WHO, DAY), 4, none_tree(0, ("nobody", fact)))
                inner = none_tree(0)
                self.tells(lands, (elder, fact), 0, (1, WHO, 9), 3, none_tree(0, ("with", elder, inner)))

    def test_no_trail_is_gone_along(self):
        facts = ((3, 2, 0, ("with", 4)), (4, 2, 0, ("with", 5)), (WHO, 2, 0, ("with", 3)))
        lands, there = self.knowing(2, 3)
        # 3 is asked about, whose role 2 leads on by 4 to 5 and nowhere.
        inner = (("open", 0, ("open", 5, (facts[0], facts[1]))),)
        tree = none_tree(0, ("with", facts[2], (inner, ())))
        self.tells(lands, facts, 0, (1, WHO, DAY), 4, tree)
        lands = (land(customs=[(0, 0, YES), (1, 0, ask(0, say(3), say(4), 2))]),)
        self.tells(lands, facts, 0, (1, WHO, DAY), 3, none_tree(0, ("with", facts[2], none_tree(0))))

    def test_two_ones_that_are_with_each_other(self):
        facts = ((3, 0, 0, ("with", WHO)), (WHO, 0, 0, ("with", 3)))
        customs = [(0, 0, say(9)), (1, 0, ask(0, say(5), say(6), 0)), (2, 0, ask(1, say(7), say(8), 0))]
        tree = none_tree(0, ("with", facts[1], none_tree(0, ("with", facts[0], none_tree(0)))))
        self.tells((land(customs=customs),), facts, 0, (2, WHO, DAY), 7, tree)


class SeatAndSource(Checked):
    fact = at_once(WHO, 0, 1)
    trail = ("in", 1, (fact,))

    def lands(self, mode, whose, seat_says, source_says):
        """Land 0 sends kind 1 to land 1 alone; each has an own answer to kind 0 of whomever."""
        first = land([(1, 0, 0, ALONE)], [(0, 0, say(seat_says)), (1, 0, say(1))])
        then = land(customs=[(0, 0, say(source_says)), (1, 0, ask(0, say(3), say(4), whose, mode))])
        return (first, then)

    def test_of_the_same_one(self):
        for mode in (0, 1):
            for answers in ((0, 2), (2, 0), (0, 0), (5, 5)):
                tree = ((("alone", 0, self.trail),), (("same", none_tree(mode)),))
                answer = 3 if answers[mode] else 4
                self.tells(self.lands(mode, None, *answers), (self.fact,), 0, (1, WHO, DAY), answer, tree)

    def test_of_another_one_by_each_role(self):
        for role in range(1, 4):
            fact = (WHO, role, 1, ("with", 3))
            for mode in (0, 1):
                for answers in ((0, 2), (2, 0)):
                    tree = ((("alone", 0, self.trail),), (("with", fact, none_tree(mode)),))
                    answer = 3 if answers[mode] else 4
                    book = (self.fact, fact)
                    self.tells(self.lands(mode, role, *answers), book, 0, (1, WHO, DAY), answer, tree)

    def test_taken_from_a_third_land(self):
        far = at_once(WHO, 1, 2)
        course = ("named", 1, ("in", 2, (far,)))
        for mode in (0, 1):
            for answers in ((0, 9, 2), (2, 9, 0)):
                first, other, third = (land(customs=[(0, 0, say(answer))]) for answer in answers)
                first = put_at(first, (0,), ((1, 0, 0, TAKEN),))
                other = put_at(other, (0,), ((1, 0, 1, COURT),))
                third = put_at(third, (1,), third[1] + ((1, 0, ask(0, say(3), say(4), None, mode)),))
                tree = ((("taken", 0, self.trail, course),), (("same", none_tree((0, 2)[mode])),))
                answer = 3 if answers[(0, 2)[mode]] else 4
                self.tells((first, other, third), (self.fact, far), 0, (1, WHO, DAY), answer, tree)

    def test_the_seat_of_a_chain_is_not_the_court_that_was_asked(self):
        first = land([(1, 0, 0, COURT)], [(0, 0, say(1)), (1, 0, say(1))])
        then = land(customs=[(0, 0, say(0)), (1, 0, ask(0, say(3), say(4)))])
        tree = ((("court", 0, self.trail), ("none", 1)), (("same", none_tree(1)),))
        self.tells((first, then), (self.fact,), 0, (1, WHO, DAY), 4, tree)

    def test_what_is_asked_goes_on_from_land_to_land_by_its_own_kind(self):
        first = land([(0, 0, 0, COURT), (1, 0, 0, ALONE)], [(0, 0, say(1))])
        then = land(customs=[(0, 0, say(0)), (1, 0, ask(0, say(3), say(4)))])
        inner = ((("court", 0, self.trail), ("none", 1)), ())
        tree = ((("alone", 0, self.trail),), (("same", inner),))
        self.tells((first, then), (self.fact,), 0, (1, WHO, DAY), 4, tree)

    def test_a_round(self):
        back = at_once(WHO, 1, 0)
        asks = (1, 3, ask(0, say(3), say(4)))
        first = land([(1, 2, 0, COURT)], [(0, 0, say(1)), asks])
        then = land([(1, 1, 1, COURT)], [(0, 0, say(0)), asks])
        steps = (("court", 0, self.trail), ("court", 1, ("in", 0, (back,))))
        book = (self.fact, back)
        entries = (("same", none_tree(1)),)
        self.tells((first, then), book, 0, (1, WHO, DAY), 4, (steps, entries))
        self.tells((first, then), book, 1, (1, WHO, DAY), 4, (steps[::-1], entries))


class AsksWithinAsks(Checked):
    with_three = (WHO, 1, 0, ("with", 3))
    # Kind 0 is yes, kind 1 no; roles 0 and 2 are nobody.
    inner = [(0, 0, YES), (1, 0, NO)]

    def way(self, *turns):
        """A saying with three asks on each way down; its answers tell the way that was gone."""
        asks = (ask(0), ask(1), ask(0, whose=1), ask(1, whose=1), ask(0, whose=0))
        first, then, third = (asks[turn] for turn in turns)
        answers = iter(range(2, 10))

        def filled(saying, rest):
            if not rest:
                return saying[:4] + (say(next(answers)), say(next(answers)))
            return saying[:4] + (filled(rest[0], rest[1:]), filled(rest[0], rest[1:]))

        return filled(first, [then, third])

    def test_three_on_a_way_down(self):
        one = none_tree(0)
        entries = (
            ("same", one), ("same", one), ("with", self.with_three, one), ("with", self.with_three, one),
            ("nobody", None),
        )
        led = (True, False, True, False, False)
        for turns in [(a, b, c) for a in range(5) for b in range(5) for c in range(5)]:
            lands = (land(customs=self.inner + [(2, 0, self.way(*turns))]),)
            place = sum(0 if led[turn] else 4 >> at for at, turn in enumerate(turns))
            tree = none_tree(0, *[entries[turn] for turn in turns])
            self.tells(lands, (self.with_three,), 0, (2, WHO, DAY), 2 + place, tree)

    def test_none_for_an_ask_that_is_not_come_to(self):
        saying = ask(0, say(5), ask(0, say(6), say(7), 2))
        lands = (land(customs=self.inner + [(2, 0, saying)]),)
        self.tells(lands, (), 0, (2, WHO, DAY), 5, none_tree(0, ("same", none_tree(0))))
        saying = ask(1, ask(0, say(5), say(6), 2), say(7))
        lands = (land(customs=self.inner + [(2, 0, saying)]),)
        self.tells(lands, (), 0, (2, WHO, DAY), 7, none_tree(0, ("same", none_tree(0))))

    def test_through_lesser_kinds_down_to_0(self):
        customs = [
            (0, 0, say(8)), (1, 0, ask(0, say(6), say(0))),
            (2, 0, ask(1, ask(0, say(4), say(0), 1), say(5))), (3, 0, ask(2, say(2), say(3), 1)),
        ]
        other = (3, 1, 0, ("with", 4))
        bottom = none_tree(0)
        one = none_tree(0, ("same", bottom))
        two = none_tree(0, ("same", one), ("with", other, bottom))
        tree = none_tree(0, ("with", self.with_three, two))
        self.tells((land(customs=customs),), (other, self.with_three), 0, (3, WHO, DAY), 2, tree)
        alone = none_tree(0, ("with", self.with_three, none_tree(0, ("same", one), ("nobody", None))))
        self.tells((land(customs=customs),), (self.with_three,), 0, (3, WHO, DAY), 3, alone)

    def test_the_most_that_can_be_asked(self):
        tree = none_tree(0)
        for _ in range(3):
            tree = none_tree(0, *[("same", tree)] * 3)
        self.tells((land(customs=asking_most()),), (), 0, (3, WHO, DAY), 3, tree)

    def test_each_ask_at_its_own_seat_and_source(self):
        """Alone from 0 to 1 by kind 2, asked there, alone from 1 to 2 by kind 1, and so on."""
        facts = (at_once(WHO, 0, 1), at_once(WHO, 1, 2), at_once(WHO, 2, 0))
        trails = [("in", fact[3][1], (fact,)) for fact in facts]
        first = land([(2, 0, 0, ALONE)], [(0, 0, say(0)), (1, 0, say(0))])
        then = land([(1, 0, 1, ALONE)], [(0, 0, say(0)), (2, 0, ask(1, say(3), say(4), None, 1))])
        third = land([(0, 0, 2, ALONE)], [(0, 0, say(1)), (1, 0, ask(0, say(5), say(0), None, 0))])
        inmost = none_tree(1)
        within = ((("alone", 1, trails[1]),), (("same", inmost),))
        tree = ((("alone", 0, trails[0]),), (("same", within),))
        self.tells((first, then, third), facts, 0, (2, WHO, DAY), 4, tree)
        at_source = put_at(third, (1, 1, 2, 3), 1)
        inmost = ((("alone", 2, trails[2]),), ())
        within = ((("alone", 1, trails[1]),), (("same", inmost),))
        tree = ((("alone", 0, trails[0]),), (("same", within),))
        self.tells((first, then, at_source), facts, 0, (2, WHO, DAY), 4, tree)
        yes = put_at(first, (1, 0, 2), say(2))
        self.tells((yes, then, at_source), facts, 0, (2, WHO, DAY), 3, tree)


class Bounds(Checked):
    def test_five_lands_sixty_facts_twelve_rules(self):
        facts = tuple((who, 0, 0, ("with", who + 1)) for who in range(58)) + (at_once(58, 0, 4),)
        book = facts + ((99, 3, 0, ("with", 0)),)
        self.assertEqual(len(book), 60)
        rules = [(kind, since, 0, (kind + since) % 3) for kind in range(4) for since in range(3)]
        customs = [(kind, day, ask(kind - 1, say(kind), say(9), None, kind % 2) if kind else say(1))
                   for kind in range(3) for day in (0, 1, LAST_DAY)]
        customs += [(3, day, ask(2, say(7), say(8), 3, 1)) for day in (0, 1, LAST_DAY)]
        lands = (land(rules, customs),) * 5
        for court in range(5):
            for kind in range(4):
                for who in (0, 99):
                    for day in (0, 1, 2, LAST_DAY):
                        question = (kind, who, day)
                        answer, tree = plain_answer(lands, book, court, question)
                        self.tells(lands, book, court, question, answer, tree)
        answer, tree = answer_of(lands, book, 0, (3, 99, LAST_DAY))
        self.assertEqual(answer, 7)
        self.assertEqual(tree[1][0][1], book[-1])
        self.assertEqual(len(tree[1][0][2][0][0][2][2]), 59)

    def test_a_trail_of_sixty_facts(self):
        facts = tuple((who, 2, 0, ("with", who + 1)) for who in range(59)) + (at_once(59, 2, 1),)
        lands = (land([(3, 0, 2, ALONE)]), land(customs=[(3, 0, say(9))]))
        tree = ((("alone", 0, ("in", 1, facts)),), ())
        for day in (0, LAST_DAY):
            self.tells(lands, facts, 0, (3, 0, day), 9, tree)

    def test_the_first_and_the_last_one_and_day(self):
        for who in (0, 99):
            for day in (0, LAST_DAY):
                fact = (who, 3, day, ("with", 99 - who))
                lands = (land(customs=[(0, day, say(9)), (3, day, ask(0, say(1), say(2), 3))]),)
                tree = none_tree(0, ("with", fact, none_tree(0)))
                self.tells(lands, (fact,), 0, (3, who, day), 1, tree)

    def test_what_is_somewhat_beyond(self):
        lands = (land(customs=[(0, 0, YES)]),)
        for court in (-1, 1, 5):
            self.assertEqual(answer_of(lands, (), court, (0, 0, 0)), (0, none_tree(court)))
        self.assertEqual(answer_of(lands, (), 0, (4, 100, -1)), (0, none_tree(0)))
        self.assertEqual(answer_of(lands, (), 0, (0, 100, LAST_DAY + 1)), (1, none_tree(0)))


class ManyWorlds(unittest.TestCase):
    def test_as_the_documents_words(self):
        seen = set()
        for lands, book in thrown_worlds(80, 21):
            for court, question in asked(lands):
                answer, tree = plain_answer(lands, book, court, question)
                self.assertEqual(answer_of(lands, book, court, question), (answer, tree))
                self.assertIs(tree_holds(lands, book, court, question, answer, tree), True)
                seen.add(tuple(entry[0] for entry in tree[1]))
        # Each row of up to three entries of these three sorts.
        self.assertEqual(len(seen), 40)

    def test_asked_again_in_another_order(self):
        calls = thrown_calls(6, 23)
        told = [answer_of(*call) for call in calls]
        for place in shuffled(len(calls), 22):
            self.assertEqual(answer_of(*calls[place]), told[place])


if __name__ == "__main__":
    unittest.main()
