import copy
import unittest

from plain import plain_answer
from samples import (
    EMPTY, ask, asking_most, at_once, changes, is_plain, land, nest, part_at, paths, put_at, say, things_of_every_kind,
)
from whoselaw.facts import is_book
from whoselaw.lands import are_lands
from whoselaw.treepaper import tree_holds
from whoselaw.trees import answer_of
from worlds import asked, thrown_worlds

ALONE, TAKEN, COURT = range(3)
LAST_DAY = 10 ** 9
DAY = 1

# Role 0 of 0 is in land 1, role 1 with 1, role 2 in land 0, role 3 nowhere; 1 is in land 1 by its role 0.
BOOK = (
    (0, 0, 0, ("in", 1)),
    (0, 1, 1, ("with", 1)),
    (0, 2, 1, ("in", 0)),
    (1, 0, 1, ("in", 1)),
    (1, 1, 0, ("with", 0)),
)


# Kind 2 of land 0 goes alone to land 1, which asks thrice; kind 1 goes by court from 0 to 1 and asks once.
LANDS = (
    land([(1, 0, 0, COURT), (2, 1, 0, ALONE)], [(0, 0, say(0)), (1, 0, say(9)), (2, 1, say(9))]),
    land(
        [(0, 1, 2, TAKEN)],
        [
            (0, 0, say(0)), (1, 0, ask(0, say(0), say(1), 1, 1)),
            (2, 0, ask(1, ask(1, ask(0, say(5), say(6), 2), say(7), 1, 1), say(8))),
            (3, 0, ask(2, ask(1, say(4), ask(0, say(1), say(2), 3), None, 1), say(3), 1, 0)),
        ],
    ),
)
# Court and question of trees: of each kind, at each court, and of one that nothing is known of.
CALLS = [(court, (kind, who, DAY)) for court in (0, 1) for kind in range(4) for who in (0, 1, 5)]
TOLD = {call: plain_answer(LANDS, BOOK, *call) for call in CALLS}
WIDE = [(0, (2, 0, DAY)), (1, (3, 0, DAY)), (1, (3, 1, DAY)), (1, (2, 5, DAY)), (1, (0, 0, DAY)), (0, (0, 5, DAY))]


def holds(call, answer, thing, lands=LANDS, book=BOOK):
    court, question = call
    return tree_holds(lands, book, court, question, answer, thing)


def entry_words(tree):
    """The words of all entries, those of the trees within too."""
    words = []
    for entry in tree[1]:
        words.append(entry[0])
        if entry[0] != "nobody":
            words.extend(entry_words(entry[-1]))
    return words


class Checked(unittest.TestCase):
    def bad(self, call, answer, thing, lands=LANDS, book=BOOK):
        told = holds(call, answer, thing, lands, book)
        # Large things are shown only where they are to blame.
        if told is not False:
            self.fail((call, repr(answer)[:200], repr(thing)[:500]))


class TheTree(Checked):
    def test_lands_book_and_trees_are_such(self):
        self.assertTrue(are_lands(LANDS) and is_book(LANDS, BOOK))
        words = [word for _, tree in TOLD.values() for word in entry_words(tree)]
        self.assertEqual(set(words), {"same", "with", "nobody"})
        nobodies = {entry for _, tree in TOLD.values() for entry in tree[1] if entry[0] == "nobody"}
        self.assertIn(("nobody", None), nobodies)
        self.assertGreater(len(nobodies), 1)
        self.assertGreaterEqual(max(len(entry_words(tree)) for _, tree in TOLD.values()), 6)

    def test_it_holds(self):
        for call in CALLS:
            answer, tree = TOLD[call]
            self.assertEqual(answer_of(LANDS, BOOK, *call), (answer, tree))
            for _ in range(2):
                self.assertIs(holds(call, answer, tree), True)
                self.assertIs(holds(call, answer, copy.deepcopy(tree)), True)

    def test_just_one_holds_of_many_with_just_one_answer(self):
        for lands, book in thrown_worlds(6, 31):
            calls = asked(lands, kinds=(1, 3), days=(0, 3))
            trees = sorted({answer_of(lands, book, *call)[1] for call in calls}, key=repr)
            for call in calls:
                answer, tree = plain_answer(lands, book, *call)
                held = [each for each in trees if holds(call, answer, each, lands, book)]
                self.assertEqual(held, [tree])
                held = [each for each in range(-1, 11) if holds(call, each, tree, lands, book)]
                self.assertEqual(held, [answer])


class OtherTrees(Checked):
    def test_any_one_part_put_otherwise_at_any_depth(self):
        for call in WIDE:
            answer, tree = TOLD[call]
            for changed in changes(tree):
                self.bad(call, answer, changed)

    def test_truths_where_a_number_is_due(self):
        changed = 0
        for call in CALLS:
            answer, tree = TOLD[call]
            for path in paths(tree):
                number = part_at(tree, path)
                if type(number) is int and number in (0, 1):
                    changed += 1
                    self.bad(call, answer, put_at(tree, path, bool(number)))
        self.assertGreater(changed, 200)

    def test_no_answer_makes_a_changed_tree_hold(self):
        call = WIDE[0]
        tree = TOLD[call][1]
        for changed in list(changes(tree))[::7]:
            for answer in (None, False, True) + tuple(range(10)):
                self.bad(call, answer, changed)

    def test_another_answer_beside_the_right_tree(self):
        for call in CALLS:
            answer, tree = TOLD[call]
            others = [True, False, None, "", str(answer), (), (answer,), [answer], {}, {answer: answer}]
            for other in others + [answer + 1, answer - 1, -answer - 1, 10 ** 59]:
                self.bad(call, other, tree)

    def test_an_entry_more_fewer_twice_in_another_order_or_of_another_word(self):
        inner = {entry for _, tree in TOLD.values() for entry in tree[1]}
        for call in CALLS:
            answer, (chain, entries) = TOLD[call]
            for place in range(len(entries)):
                self.bad(call, answer, (chain, entries[:place] + entries[place + 1:]))
                self.bad(call, answer, (chain, entries[:place] + entries[place:place + 1] + entries[place:]))
                for word in ("same", "with", "nobody", "ask", "none", ""):
                    if word != entries[place][0]:
                        self.bad(call, answer, (chain, put_at(entries, (place, 0), word)))
            for entry in inner:
                for place in range(len(entries) + 1):
                    self.bad(call, answer, (chain, entries[:place] + (entry,) + entries[place:]))
            if entries != entries[::-1]:
                self.bad(call, answer, (chain, entries[::-1]))

    def test_an_entry_of_another_sort_in_an_entrys_stead(self):
        entries = {entry for _, tree in TOLD.values() for entry in tree[1]}
        trees = {tree for _, tree in TOLD.values()}
        made = [("same", tree) for tree in trees] + [("with", fact, tree) for fact in BOOK for tree in trees]
        made += [("nobody", fact) for fact in BOOK + (None,)] + sorted(entries, key=repr)
        made += [("with", None, tree) for tree in trees] + [("same",), ("with",), ("nobody",)]
        for call in CALLS:
            answer, tree = TOLD[call]
            for place in range(len(tree[1])):
                for entry in made:
                    if entry != tree[1][place]:
                        self.bad(call, answer, put_at(tree, (1, place), entry))

    def test_parts_of_trees_in_one_anothers_place(self):
        call = (1, (3, 0, DAY))
        answer, tree = TOLD[call]
        parts = sorted({part_at(tree, path) for path in paths(tree)}, key=repr)
        for path in paths(tree):
            for new in parts:
                changed = put_at(tree, path, new)
                if changed != tree:
                    self.bad(call, answer, changed)

    def test_a_chain_alone_or_a_part_more(self):
        for call in CALLS:
            answer, tree = TOLD[call]
            chain, entries = tree
            for thing in (chain, (chain,), (entries,), (entries, chain), tree + ((),), ((),) + tree, (tree,),
                          (answer, tree), (chain, entries, answer), (chain, None), (chain, list(entries))):
                self.bad(call, answer, thing)


class ElsewhereRight(Checked):
    def test_of_another_court_kind_one_or_day(self):
        calls = [(court, (kind, who, day)) for court in (0, 1) for kind in range(4)
                 for who in (0, 1, 5) for day in (0, 1, LAST_DAY)]
        told = {call: plain_answer(LANDS, BOOK, *call) for call in calls}
        for call in calls:
            for other in calls:
                answer, tree = told[other]
                self.assertIs(holds(call, answer, tree), told[call] == told[other], (call, other))

    def test_of_another_book_or_other_lands(self):
        books = [BOOK[:place] + BOOK[place + 1:] for place in range(5)]
        books += [put_at(BOOK, (place, 3), ("with", 9)) for place in range(5)] + [BOOK]
        all_lands = [put_at(LANDS, (number,), EMPTY) for number in (0, 1)]
        all_lands += [put_at(LANDS, (0, 0, place, 2), 2) for place in (0, 1)]
        all_lands += [put_at(LANDS, (1, 1, 1, 2), say(0)), LANDS]
        for call in WIDE:
            answer, tree = TOLD[call]
            for lands in all_lands:
                for book in books:
                    alike = plain_answer(lands, book, *call) == (answer, tree)
                    self.assertIs(holds(call, answer, tree, lands, book), alike)

    def test_a_custom_that_it_was_answered_by_put_otherwise(self):
        call = (0, (2, 0, DAY))
        answer, tree = TOLD[call]
        self.assertEqual((answer, [entry[0] for entry in tree[1]]), (6, ["same", "with", "nobody"]))
        for place, new in (((4, 4, 5), say(0)), ((4, 4, 2), 0), ((4, 4, 2), 3), ((4, 2), None), ((2,), 1),
                           ((1,), 0), ((), say(6))):
            lands = put_at(LANDS, (1, 1, 2, 2) + place, new)
            self.assertTrue(are_lands(lands))
            self.bad(call, answer, tree, lands)
        # Where it isn't come to, it is nothing to the tree.
        self.assertIs(holds(call, answer, tree, put_at(LANDS, (1, 1, 2, 2, 5), say(0))), True)


class OtherThings(Checked):
    def test_in_the_trees_place(self):
        for thing in things_of_every_kind() + [()]:
            for call in CALLS:
                answer, (chain, entries) = TOLD[call]
                for made in (thing, (thing, thing), (chain, thing), (thing, entries), (chain, entries + (thing,)),
                             (chain, (thing,) + entries)):
                    # Of a tree without entries the row of these is ().
                    if made != (chain, entries):
                        self.bad(call, answer, made)

    def test_in_each_place_of_a_tree(self):
        things = things_of_every_kind()
        for call in WIDE[1:3]:
            answer, tree = TOLD[call]
            for path in paths(tree):
                for thing in things:
                    changed = put_at(tree, path, thing)
                    if changed != tree or type(thing) is bool:
                        self.bad(call, answer, changed)

    def test_in_the_answers_place(self):
        for call in CALLS:
            answer, tree = TOLD[call]
            for thing in things_of_every_kind() + [()]:
                told = holds(call, thing, tree)
                self.assertIs(told, type(thing) is int and thing == answer)

    def test_in_both_places(self):
        things = things_of_every_kind() + [()]
        for answer in things:
            for thing in things:
                self.bad(WIDE[0], answer, thing)

    def test_trees_that_go_down_without_end(self):
        for call in WIDE:
            answer, (chain, entries) = TOLD[call]
            for wrap in (lambda inner: (chain, (("same", inner),)), lambda inner: (chain, (("with", BOOK[1], inner),))):
                self.bad(call, answer, nest(13, wrap, (chain, entries)))

    def test_what_was_handed_in_stays(self):
        answer, tree = TOLD[WIDE[0]]
        thing, told = [list(tree), {"a": tree}], [answer]
        kept = copy.deepcopy((thing, told))
        self.bad(WIDE[0], told, thing)
        self.bad(WIDE[0], told, tuple(thing))
        self.assertEqual((thing, told), kept)


class Bounds(Checked):
    def test_forty_trees_and_long_trails(self):
        facts = tuple((who, 0, 0, ("with", who + 1)) for who in range(40, 99)) + (at_once(99, 0, 0),)
        lands = (land([(kind, 0, 0, COURT) for kind in range(4)], asking_most()),)
        question = (3, 40, LAST_DAY)
        self.assertTrue(are_lands(lands) and is_book(lands, facts))
        answer, tree = answer_of(lands, facts, 0, question)
        self.assertEqual(answer, 3)
        self.assertTrue(is_plain(tree))
        self.assertEqual(len(entry_words(tree)), 39)
        self.assertIs(tree_holds(lands, facts, 0, question, answer, tree), True)
        deep = (1, 2, 1, 1, 2, 1, 1, 2, 1)
        self.assertEqual(part_at(tree, deep), tree[:1] + ((),))
        for place in (0, 30, 59):
            for new in (False, None, [], -1):
                changed = put_at(tree, deep + (0, 0, 2, 2, place, 1), new)
                self.assertIs(tree_holds(lands, facts, 0, question, answer, changed), False)

    def test_large_things_with_a_right_beginning(self):
        for call in WIDE:
            answer, (chain, entries) = TOLD[call]
            self.bad(call, answer, (chain, entries + entries[-1:] * 15000 + (0,)))
            self.bad(call, answer, (chain, (("same", (chain, ())),) * 15000))
            self.bad(call, answer, (chain + (0,) * 19000, entries))


if __name__ == "__main__":
    unittest.main()
