import copy
import itertools
import random
import unittest

from plain import plain_answer
from plain_opens import all_views, fillings, more_known, plain_filled, plain_leaf, plain_view_holds
from samples import (
    EMPTY, ask, at_once, beside, changes, land, nest, part_at, paths, put_at, say, things_of_every_kind,
)
from whoselaw.facts import is_book
from whoselaw.lands import are_lands
from whoselaw.opens import is_opens
from whoselaw.viewpaper import view_holds
from worlds import FOLK, full_worlds, thrown_courts, thrown_opens

ALONE, TAKEN, COURT = range(3)
LAST_DAY = 10 ** 9
WHO, DAY = 5, 10
NOWHERE = ("no",)
QUESTION = (1, WHO, DAY)

# All customs of kind 1 are alike: 3 where role 2 of the one asked about is with somebody, else 4. Land 0 asks by
# role 0, in the way court, land 1 by role 1, alone; land 2 has no rule.
CUSTOMS = [(0, 0, say(1)), (1, 0, ask(0, say(3), say(4), 2))]
LANDS = (land([(1, 0, 0, COURT)], CUSTOMS), land([(1, 0, 1, ALONE)], CUSTOMS), land([], CUSTOMS))
# Facts of the opens' pairs are among them, too: they are nothing to a view.
BOOK = (at_once(WHO, 0, 0), at_once(WHO, 1, 0), beside(WHO, 2, 7, DAY + 1), at_once(7, 0, 1))
OPENS = (
    (WHO, 0, (("in", 1), ("in", 2))),
    (WHO, 1, (("in", 1), ("in", 2), NOWHERE)),
    (WHO, 2, (("in", 0), ("with", 6))),
    (9, 3, (NOWHERE, ("with", 1))),
)
ALL = (2, 0, 1)


def holds(thing, courts=ALL, known=(), opens=OPENS, question=QUESTION, lands=LANDS, book=BOOK):
    return view_holds(lands, book, question, courts, opens, known, thing)


def due(thing, courts=ALL, known=(), opens=OPENS, question=QUESTION, lands=LANDS, book=BOOK):
    return plain_view_holds(lands, book, question, courts, opens, known, thing)


def leaf(courts=ALL, known=(), opens=OPENS, question=QUESTION, lands=LANDS, book=BOOK):
    """The leaf that is due where these are known, whether the trees look at what isn't known or not."""
    options = dict(known)
    filling = [options.get(number, NOWHERE) for number in range(len(opens))]
    then = plain_filled(book, opens, filling, question[2])
    told = [plain_answer(lands, then, court, question) for court in courts]
    return ("told", told[0][0], tuple(tree for _, tree in told))


def split(number, make, known=(), opens=OPENS):
    """A split whose branches are made of what is known in them."""
    return ("split", number, tuple(make(more_known(known, number, option)) for option in opens[number][2]))


def splits(order, courts=ALL, known=(), opens=OPENS):
    """A view that is split at these opens, one behind the other."""
    if not order:
        return leaf(courts, known, opens)
    return split(order[0], lambda more: splits(order[1:], courts, more, opens), known, opens)


COURT_OF_0 = ("split", 0, (splits((2, 1), (0,), ((0, ("in", 1)),)), splits((2,), (0,), ((0, ("in", 2)),))))


class Checked(unittest.TestCase):
    def good(self, thing, **more):
        self.assertIs(holds(thing, **more), True)
        self.assertIs(due(thing, **more), True)

    def bad(self, thing, **more):
        told = holds(thing, **more)
        # Large things are shown only where they are to blame.
        if told is not False:
            self.fail((repr(more)[:300], repr(thing)[:500]))

    def as_due(self, thing, **more):
        told = holds(thing, **more)
        if told is not due(thing, **more):
            self.fail((told, repr(more)[:300], repr(thing)[:500]))
        return told


class Views(Checked):
    def test_lands_book_and_opens_are_such(self):
        self.assertTrue(are_lands(LANDS) and is_book(LANDS, BOOK) and is_opens(LANDS, OPENS))
        answers = {leaf(known=((2, option),))[1] for option in OPENS[2][2]}
        self.assertEqual(answers, {3, 4})

    def test_a_leaf_alone(self):
        # Where there are no opens, and where no court looks at them.
        self.good(leaf(opens=()), opens=())
        self.good(leaf(opens=OPENS[3:]), opens=OPENS[3:])
        for courts in ((0,), (1,), (2,), (1, 2), (2, 1), ALL):
            self.good(leaf(courts, opens=OPENS[3:]), opens=OPENS[3:], courts=courts)
        # Kind 0 has no rule, so nothing is looked at.
        for option in OPENS:
            self.good(leaf(question=(0, WHO, DAY), opens=(option,)), question=(0, WHO, DAY), opens=(option,))

    def test_a_leaf_whose_trees_look_at_what_is_not_known(self):
        self.bad(leaf())
        for courts in ((0,), (1,), (2,), (2, 0), (1, 2)):
            self.bad(leaf(courts), courts=courts)
            for number in range(3):
                looked = {0: (0, 2), 1: (1, 2), 2: (2,)}
                looks = any(number in looked[court] for court in courts)
                told = self.as_due(leaf(courts, opens=OPENS[number:number + 1]), courts=courts,
                                   opens=OPENS[number:number + 1])
                self.assertIs(told, not looks)

    def test_each_known_that_is_looked_at_is_needed(self):
        for known in all_known((0, 1, 2)):
            self.good(leaf(known=known), known=known)
            for place in range(3):
                fewer = known[:place] + known[place + 1:]
                self.bad(leaf(known=fewer), known=fewer)
                self.bad(leaf(known=known), known=fewer)

    def test_where_more_is_known_than_is_looked_at(self):
        for known in all_known((0, 1, 2, 3)):
            self.good(leaf(known=known), known=known)
            self.good(leaf((2,), known), courts=(2,), known=known)

    def test_a_split_at_one_open(self):
        self.good(splits((2,), (2,)), courts=(2,))
        # At others the trees of land 2 do not look; then they are wanted yet.
        for number in (0, 1, 3):
            self.bad(splits((number,), (2,)), courts=(2,))
        for known in all_known((0, 1)):
            self.good(split(2, lambda more: leaf(known=more), known), known=known)

    def test_splits_within_one_another(self):
        for order in itertools.permutations((0, 1, 2)):
            self.good(splits(order))
            self.good(splits(order + (3,)))
            self.good(splits((3,) + order))
            self.bad(splits(order[:2]))
            for courts in itertools.permutations((0, 1, 2)):
                self.good(splits(order, courts), courts=courts)
        self.good(splits((1, 2), (1,)), courts=(1,))
        # Land 0's court looks at role 1 only where it is sent on to land 1.
        self.bad(splits((0, 2), (0,)), courts=(0,))
        self.good(COURT_OF_0, courts=(0,))
        # Branches may be split at unlike opens, or be leaves alone.
        first = ((2, OPENS[2][2][0]),)
        second = ((2, OPENS[2][2][1]),)
        view = ("split", 2, (splits((1, 0), known=first), splits((0, 3, 1), known=second)))
        self.good(view)
        self.bad(("split", 2, (view[2][1], view[2][0])))

    def test_a_question_whose_court_looks_only_where_another_open_leads(self):
        # Role 1 of 5 may be with 6, and only then role 1 of 6 is looked at.
        opens = ((WHO, 1, (("in", 2), ("with", 6))), (6, 1, (("in", 0), ("in", 2))))
        lands = (LANDS[0], land([(0, 0, 1, ALONE)], [(0, 0, say(1))]), LANDS[2])
        more = {"lands": lands, "opens": opens, "courts": (1,), "question": (0, WHO, DAY)}
        first = leaf(known=((0, ("in", 2)),), **more)
        inner = tuple(leaf(known=((0, ("with", 6)), (1, option)), **more) for option in opens[1][2])
        self.good(("split", 0, (first, ("split", 1, inner))), **more)
        self.bad(("split", 1, inner), **more)
        self.assertEqual(len(all_views(lands, BOOK, (0, WHO, DAY), (1,), opens)), 3)
        for view in all_views(lands, BOOK, (0, WHO, DAY), (1,), opens):
            self.good(view, **more)

    def test_answers_that_part(self):
        other = put_at(LANDS, (2, 1, 1, 2, 4), say(9))
        self.assertTrue(are_lands(other))
        # Land 2 says 9 for 3: so 0 and 1 agree with it only where role 2 is with nobody.
        for option, told in zip(OPENS[2][2], (True, False)):
            known = ((0, ("in", 1)), (1, ("in", 1)), (2, option))
            view = leaf(known=known, lands=other)
            self.assertIs(self.as_due(view, known=known, lands=other), told)
            for answer in (0, 3, 4, 9, None, True):
                self.as_due(put_at(view, (1,), answer), known=known, lands=other)
            self.good(leaf((0, 1), known, lands=other), courts=(0, 1), known=known, lands=other)
            self.good(leaf((2,), known, lands=other), courts=(2,), known=known, lands=other)

    def test_no_is_filled_in_whether_it_is_an_option_or_not(self):
        opens = ((WHO, 2, (("in", 0), ("with", 6))),)
        view = leaf((2,), opens=opens)
        self.assertEqual(view[1:], (4, (((("none", 2),), (("nobody", None),)),)))
        self.bad(view, courts=(2,), opens=opens)
        # Facts that the book has of that pair are left out also where it isn't looked at.
        self.good(leaf((2,), question=(1, 7, DAY), opens=opens), courts=(2,), question=(1, 7, DAY), opens=opens)

    def test_all_views_of_some_worlds(self):
        dice = random.Random(151)
        many = deep = 0
        for lands, book in full_worlds(60, 152):
            opens = thrown_opens(dice, len(lands), 8)[:3]
            courts = thrown_courts(dice, len(lands))
            question = (dice.randrange(4), dice.randrange(FOLK), dice.randrange(5))
            book = book[:50]
            views = all_views(lands, book, question, courts, opens)
            for view in dice.sample(views, min(len(views), 12)):
                many += 1
                deep += view[0] == "split"
                self.assertIs(view_holds(lands, book, question, courts, opens, (), view), True)
                other = dice.choice(views)
                self.assertIs(view_holds(lands, book, question, courts[::-1], opens, (), other),
                              plain_view_holds(lands, book, question, courts[::-1], opens, (), other))
        self.assertGreater(many, 150)
        self.assertGreater(deep, 100)


def all_known(numbers):
    """Each way in which just these opens are known."""
    rows = itertools.product(*[OPENS[number][2] for number in numbers])
    return [tuple(zip(numbers, row)) for row in rows]


class OtherViews(Checked):
    def test_a_branch_too_few_or_too_many_or_in_another_order(self):
        for order in ((2, 0, 1), (0, 1, 2), (1, 2, 3, 0)):
            view = splits(order)
            for path in paths(view):
                row = part_at(view, path)
                if path and path[-1] == 2 and isinstance(row, tuple) and row and row[0][0] in ("split", "told"):
                    self.bad(put_at(view, path, row[1:]))
                    self.bad(put_at(view, path, row[:-1]))
                    self.bad(put_at(view, path, ()))
                    for more in row:
                        self.bad(put_at(view, path, row + (more,)))
                        self.bad(put_at(view, path, (more,) + row))
                    for turned in itertools.permutations(row):
                        self.as_due(put_at(view, path, turned))

    def test_an_open_split_at_twice_or_already_known(self):
        for known in all_known((0, 1, 2)):
            view = leaf(known=known)
            for number in range(4):
                twice = ("split", number, (view,) * len(OPENS[number][2]))
                told = self.as_due(twice, known=known)
                self.assertIs(told, number == 3)
        for order in ((0, 1, 2, 0), (0, 0, 1, 2), (2, 3, 3, 0, 1)):
            view = splits_loosely(order)
            self.bad(view)
        self.bad(split(0, lambda more: split(0, lambda most: splits((1, 2), known=more))))

    def test_numbers_that_no_open_has(self):
        view = splits((2,), (2,))
        for number in (-1, -2, 4, 5, 10 ** 59, True, False, None, "2", (2,), [2], 0, 1, 3):
            self.bad(put_at(view, (1,), number), courts=(2,))
        self.bad(("split", 0, ()), opens=())
        self.bad(("split", 0, (leaf(opens=()),)), opens=())
        self.bad(("split", -1, (leaf(opens=()),)), opens=())

    def test_any_one_part_put_otherwise_at_any_depth(self):
        cases = [
            (splits((2,), (2,)), {"courts": (2,)}),
            (COURT_OF_0, {"courts": (0,)}),
            (leaf(known=all_known((0, 1, 2))[3]), {"known": all_known((0, 1, 2))[3]}),
            (split(2, lambda more: leaf(known=more), all_known((0, 1))[1]), {"known": all_known((0, 1))[1]}),
            (leaf(opens=()), {"opens": ()}),
        ]
        for view, more in cases:
            self.good(view, **more)
            for changed in changes(view):
                self.bad(changed, **more)

    def test_truths_where_a_number_is_due(self):
        changed = 0
        opens = OPENS[:3]
        for order in ((0, 1, 2), (1, 0, 2)):
            view = splits(order, opens=opens)
            self.good(view, opens=opens)
            for path in paths(view):
                number = part_at(view, path)
                if type(number) is int and number in (0, 1):
                    changed += 1
                    self.bad(put_at(view, path, bool(number)), opens=opens)
        self.assertGreater(changed, 200)

    def test_another_answer_or_a_tree_of_another_court(self):
        known = all_known((0, 1, 2))[0]
        view = leaf(known=known)
        for answer in (0, 1, 2, 3, 4, 5, 9, -1, True, None, "4", (view[1],), [view[1]]):
            if answer != view[1]:
                self.bad(put_at(view, (1,), answer), known=known)
        for row in itertools.product(view[2], repeat=3):
            self.as_due(("told", view[1], row), known=known)
        for many in (0, 1, 2, 4):
            self.bad(("told", view[1], (view[2] * 2)[:many]), known=known)

    def test_leaves_in_one_anothers_place(self):
        view = splits((2, 0, 1))
        leaves = [path for path in paths(view) if is_view(part_at(view, path), "told")]
        self.assertEqual(len(leaves), 12)
        for low, high in itertools.permutations(leaves, 2):
            self.as_due(put_at(view, low, part_at(view, high)))
        inner = [path for path in paths(view) if is_view(part_at(view, path), "split")]
        for low in inner:
            for high in inner + leaves:
                self.as_due(put_at(view, low, part_at(view, high)))

    def test_views_that_are_right_elsewhere(self):
        cases = [
            {}, {"courts": (2,)}, {"courts": (0, 1, 2)}, {"known": all_known((0,))[0]}, {"known": all_known((2,))[1]},
            {"known": all_known((0, 1, 2))[0]}, {"known": all_known((0, 1, 2))[11]}, {"question": (1, 7, DAY)},
            {"question": (0, WHO, DAY)}, {"question": (1, WHO, DAY + 1)}, {"opens": OPENS[1:]}, {"opens": OPENS[:3]},
            {"lands": LANDS[:2] + (EMPTY,)}, {"book": ()}, {"courts": (1, 2)},
        ]
        views = [splits(order) for order in ((0, 1, 2), (2, 1, 0))] + [splits((2,), (2,)), splits((1, 2), (1,))]
        views += [leaf(**{**case}) for case in cases]
        told = [self.as_due(view, **case) for view in views for case in cases]
        self.assertGreater(told.count(True), 10)
        self.assertGreater(told.count(False), 100)


def is_view(part, word):
    return isinstance(part, tuple) and len(part) == 3 and part[0] == word and isinstance(part[2], tuple)


def splits_loosely(order, known=()):
    """As splits, also where an open is known already: then it is known anew."""
    if not order:
        return leaf(known=known)
    number = order[0]
    others = tuple(each for each in known if each[0] != number)
    return ("split", number, tuple(
        splits_loosely(order[1:], more_known(others, number, option)) for option in OPENS[number][2]
    ))


class OtherThings(Checked):
    def test_in_the_views_place(self):
        known = all_known((0, 1, 2))[0]
        view = leaf(known=known)
        for thing in things_of_every_kind() + [()]:
            for more in ({}, {"courts": (2,)}, {"opens": ()}, {"known": known}):
                for made in (thing, (thing,), ("told", thing, ()), ("told", 4, thing), ("told", 4, (thing,)),
                             ("told", 4, (thing,) * 3), ("split", thing, ()), ("split", 2, thing),
                             ("split", 2, (thing, thing)), (thing, 2, (view, view)), ("split", thing, (view, view)),
                             (thing, thing, thing), ("told", view[1], view[2] + (thing,)), view + (thing,)):
                    self.bad(made, **more)

    def test_in_each_place_of_a_view(self):
        things = things_of_every_kind()
        view = splits((2,), (2,))
        for path in paths(view):
            for thing in things:
                changed = put_at(view, path, thing)
                if repr(changed) != repr(view):
                    self.bad(changed, courts=(2,))

    def test_splits_that_go_down_without_end(self):
        view = leaf(opens=())
        for number in range(4):
            many = len(OPENS[number][2])
            self.bad(nest(19, lambda inner: ("split", number, (inner,) * many), view))
            self.bad(nest(19, lambda inner: ("split", number, (view, inner)), view))
        self.bad(nest(19, lambda inner: ("split", 0, (inner,)), view), opens=())

    def test_large_things_with_a_right_beginning(self):
        view = splits((2,), (2,))
        self.bad(put_at(view, (2,), view[2] * 300), courts=(2,))
        self.bad(put_at(view, (2, 0, 2), view[2][0][2] * 1000), courts=(2,))
        self.bad(view * 300, courts=(2,))

    def test_what_was_handed_in_stays(self):
        thing = [list(splits((2,), (2,))), {"a": leaf()}]
        kept = copy.deepcopy(thing)
        self.bad(thing)
        self.bad(tuple(thing))
        self.bad(tuple(thing[0]), courts=(1,))
        self.assertEqual(thing, kept)


class Bounds(Checked):
    def view_of(self, opens, numbers, known=()):
        """A view of land 4's court that is split at these opens."""
        if not numbers:
            return plain_leaf(self.lands, self.book, self.question, self.courts, opens, known)
        number = numbers[0]
        return ("split", number, tuple(
            self.view_of(opens, numbers[1:], more_known(known, number, option)) for option in opens[number][2]
        ))

    def test_sixty_four_fillings(self):
        # Kind 3 asks about roles 1 to 3 in turn, and goes by role 0, 1 and 2 from land to land.
        customs = [(0, 0, say(1)), (3, 0, ask(0, ask(0, ask(0, say(1), say(2), 3), say(3), 2), say(4), 1))]
        self.lands = tuple(land([(3, 0, number % 3, COURT)], customs) for number in range(5))
        self.book = tuple(beside(who, 0, 99, LAST_DAY) for who in range(1, 51))
        self.question = (3, 0, LAST_DAY)
        self.courts = (4, 3, 2, 1, 0)
        two = (("in", 0), ("in", 1))
        four = two + (("in", 4), ("with", 99))
        six = tuple(("in", number) for number in range(5)) + (("with", 98),)
        sets_of_opens = (
            ((0, 0, six),), tuple((0, role, four) for role in range(3)),
            tuple((0, role, two) for role in range(4)) + ((98, 3, four),),
            tuple((0, role, two) for role in range(4)) + ((98, 3, two),),
        )
        many = (6, 64, 64, 32)
        self.assertEqual(tuple(len(fillings(opens)) for opens in sets_of_opens), many)
        for opens in sets_of_opens:
            self.assertTrue(are_lands(self.lands) and is_book(self.lands, self.book) and is_opens(self.lands, opens))
            order = tuple(range(len(opens)))
            view = self.view_of(opens, order)
            self.assertIs(view_holds(self.lands, self.book, self.question, self.courts, opens, (), view), True)
            last = view
            path = ()
            while last[0] == "split":
                path += (2, len(last[2]) - 1)
                last = last[2][-1]
            for new in (None, (), last[2][1:], last[2] + last[2][:1], last[2][::-1], list(last[2])):
                changed = put_at(view, path + (2,), new)
                self.assertIs(view_holds(self.lands, self.book, self.question, self.courts, opens, (), changed), False)


if __name__ == "__main__":
    unittest.main()
