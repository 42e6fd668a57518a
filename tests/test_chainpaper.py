import copy
import unittest

from plain import plain_chain
from samples import EMPTY, at_once, changes, land, part_at, paths, put_at, things_of_every_kind
from whoselaw.chainpaper import chain_holds
from whoselaw.chains import chain_of
from whoselaw.facts import is_book
from whoselaw.lands import are_lands
from worlds import asked, thrown_worlds

ALONE, TAKEN, COURT = range(3)
LAST_DAY = 10 ** 9
QUESTION = (1, 0, 1)

# Each role of 0 leads on a way of its own: role 0 to land 1, role 1 by 1 to land 0, role 2 nowhere.
BOOK = (
    (0, 0, 0, ("in", 1)),
    (0, 1, 0, ("with", 1)),
    (0, 2, 1, ("with", 2)),
    (1, 0, 0, ("in", 1)),
    (1, 1, 1, ("in", 0)),
    (1, 2, 0, ("in", 1)),
)
ROUND = (
    (0, 0, 0, ("with", 1)),
    (0, 1, 1, ("in", 1)),
    (1, 0, 0, ("with", 0)),
)


def ruled(*rules):
    """Lands that have one rule of kind 1 each, or none: (role, way) of since 1."""
    return tuple(EMPTY if each is None else land([(1, 1) + each]) for each in rules)


# Lands, book and court, under the words of the chain's steps: each word, taken with each next, and rounds.
CASES = {
    "none": (ruled(None, None), BOOK, 1),
    "open": (ruled((2, COURT), None), BOOK, 0),
    "open by a round": (ruled(None, (0, ALONE)), ROUND, 1),
    "self": (ruled(None, (0, TAKEN)), BOOK, 1),
    "alone": (ruled(None, (1, ALONE)), BOOK, 1),
    "taken, none": (ruled((0, TAKEN), None), BOOK, 0),
    "taken, open": (ruled((0, TAKEN), (2, ALONE)), BOOK, 0),
    "taken, open by a round": (ruled((1, TAKEN), (0, ALONE)), ROUND, 0),
    "taken, self": (ruled((0, TAKEN), (0, COURT)), BOOK, 0),
    "taken, named": (ruled((0, TAKEN), (1, COURT)), BOOK, 0),
    "court, none": (ruled((0, COURT), None), BOOK, 0),
    "court, open by a round": (ruled((1, COURT), (0, COURT)), ROUND, 0),
    "court, self": (ruled((0, COURT), (0, COURT)), BOOK, 0),
    "court, alone": (ruled((0, COURT), (1, ALONE)), BOOK, 0),
    "court, taken, named": (ruled((0, TAKEN), (1, COURT)), BOOK, 1),
    "court, court": (ruled((0, COURT), (1, COURT)), BOOK, 0),
    "court, court, court": (ruled((0, COURT), (1, COURT), (1, COURT)), BOOK, 2),
}
CHAINS = {name: plain_chain(lands, book, court, QUESTION) for name, (lands, book, court) in CASES.items()}


def words_of(step):
    if step[0] == "taken":
        return "taken, " + words_of(step[3])
    if step[0] == "open" and step[2][0] == "round":
        return "open by a round"
    return step[0]


class Checked(unittest.TestCase):
    def bad(self, name, thing, question=QUESTION):
        lands, book, court = CASES[name]
        # Large things are shown only where they are to blame.
        if chain_holds(lands, book, court, question, thing) is not False:
            self.fail((name, repr(thing)[:500]))


class TheChain(Checked):
    def test_the_cases_go_as_they_are_called(self):
        for name, (lands, book, court) in CASES.items():
            self.assertTrue(are_lands(lands) and is_book(lands, book), name)
            self.assertEqual(", ".join(words_of(step) for step in CHAINS[name]), name)

    def test_it_holds(self):
        for name, (lands, book, court) in CASES.items():
            told = chain_of(lands, book, court, QUESTION)
            for _ in range(2):
                self.assertIs(chain_holds(lands, book, court, QUESTION, told), True, name)
            self.assertIs(chain_holds(lands, book, court, QUESTION, copy.deepcopy(CHAINS[name])), True, name)

    def test_just_one_holds_of_many(self):
        """Of every question at every court, in each of these worlds and of the chains made in them."""
        for lands, book in thrown_worlds(8, 11):
            calls = asked(lands, kinds=(0, 2), days=(0, 3))
            chains = sorted({chain_of(lands, book, *call) for call in calls}, key=repr)
            for court, question in calls:
                held = [chain for chain in chains if chain_holds(lands, book, court, question, chain)]
                self.assertEqual(held, [plain_chain(lands, book, court, question)])


class OtherThings(Checked):
    def test_any_one_part_put_otherwise(self):
        for name, chain in CHAINS.items():
            for changed in changes(chain):
                self.bad(name, changed)

    def test_truths_where_a_number_is_due(self):
        changed = 0
        for name, chain in CHAINS.items():
            for path in paths(chain):
                number = part_at(chain, path)
                if type(number) is int and number in (0, 1):
                    changed += 1
                    self.bad(name, put_at(chain, path, bool(number)))
        self.assertGreater(changed, 100)

    def test_parts_of_chains_in_one_anothers_place(self):
        parts = sorted({part_at(chain, path) for chain in CHAINS.values() for path in paths(chain)}, key=repr)
        for name, chain in CHAINS.items():
            for path in paths(chain):
                for new in parts:
                    changed = put_at(chain, path, new)
                    if changed != chain:
                        self.bad(name, changed)

    def test_a_step_more_fewer_twice_or_in_another_order(self):
        steps = {step for chain in CHAINS.values() for step in chain}
        for name, chain in CHAINS.items():
            for place in range(len(chain)):
                self.bad(name, chain[:place] + chain[place + 1:])
                self.bad(name, chain[:place] + (chain[place],) + chain[place:])
            for step in steps:
                for place in range(len(chain) + 1):
                    self.bad(name, chain[:place] + (step,) + chain[place:])
            self.bad(name, chain + chain)
            self.bad(name, ())

    def test_a_chain_that_is_begun_elsewhere(self):
        lands, book, _ = CASES["court, court, court"]
        chains = [plain_chain(lands, book, court, QUESTION) for court in range(3)]
        for court in range(3):
            for other in range(3):
                told = chain_holds(lands, book, court, QUESTION, chains[other])
                self.assertIs(told, court == other)
        self.assertEqual(chains[0], chains[1][::-1])
        # A round gone on with, once around and further.
        self.bad("court, court, court", chains[2] + chains[2][1:])
        self.bad("court, court", chains[0] + chains[0])
        self.bad("court, court", chains[0] + chains[0][:1])

    def test_a_course_of_a_next_is_no_step(self):
        lands, book, _ = CASES["taken, named"]
        step = chain_of(lands, book, 0, QUESTION)[0]
        self.assertEqual(step[3][0], "named")
        self.assertIs(chain_holds(lands, book, 1, QUESTION, (step[3],)), False)
        word, number, trail = step[3]
        self.assertIs(chain_holds(lands, book, 1, QUESTION, (("court", number, trail), step)), True)
        for other in ("alone", "taken", "self", "open", "none", "named"):
            self.assertIs(chain_holds(lands, book, 1, QUESTION, ((other, number, trail), step)), False)

    def test_a_next_beside_another_way(self):
        for name in ("alone", "court, none", "court, alone"):
            first = CHAINS[name][0]
            self.bad(name, (first + (("none", 1),),) + CHAINS[name][1:])
        self.bad("taken, none", (CHAINS["taken, none"][0][:3],))

    def test_things_of_every_kind(self):
        for thing in things_of_every_kind() + [()]:
            for name, chain in CHAINS.items():
                self.bad(name, thing)
                self.bad(name, (thing,))
                self.bad(name, chain + (thing,))
                self.bad(name, (thing,) + chain)

    def test_things_of_every_kind_in_each_place(self):
        things = things_of_every_kind()
        for name in ("court, taken, named", "court, court, court", "open"):
            chain = CHAINS[name]
            for path in paths(chain):
                for thing in things:
                    changed = put_at(chain, path, thing)
                    if changed != chain or type(thing) is bool:
                        self.bad(name, changed)

    def test_what_was_handed_in_stays(self):
        thing = [list(CHAINS["court, court"]), {"a": CHAINS["court, court"]}]
        kept = copy.deepcopy(thing)
        self.bad("court, court", thing)
        self.bad("court, court", tuple(thing))
        self.assertEqual(thing, kept)


class ElsewhereRight(Checked):
    def test_the_chain_of_another_kind_one_or_day(self):
        for name, (lands, book, court) in CASES.items():
            for kind in range(4):
                for who in range(4):
                    for day in range(3):
                        question = (kind, who, day)
                        alike = plain_chain(lands, book, court, question) == CHAINS[name]
                        told = chain_holds(lands, book, court, question, CHAINS[name])
                        self.assertIs(told, alike, (name, question))

    def test_the_chain_of_other_lands_or_another_book(self):
        for name, chain in CHAINS.items():
            for other, (lands, book, court) in CASES.items():
                alike = plain_chain(lands, book, court, QUESTION) == chain
                self.assertIs(chain_holds(lands, book, court, QUESTION, chain), alike, (name, other))

    def test_a_fact_or_a_rule_that_it_hangs_on_put_otherwise(self):
        for name in ("taken, named", "court, alone", "court, court"):
            lands, book, court = CASES[name]
            chain = CHAINS[name]
            for place in (0, 1, 4):
                without = book[:place] + book[place + 1:]
                self.assertIs(chain_holds(lands, without, court, QUESTION, chain), False, name)
                moved = put_at(book, (place, 3), ("with", 9))
                self.assertIs(chain_holds(lands, moved, court, QUESTION, chain), False, name)
            for number in (0, 1):
                self.assertIs(chain_holds(put_at(lands, (number,), EMPTY), book, court, QUESTION, chain), False)
                turned = put_at(lands, (number, 0, 0, 2), 2)
                self.assertIs(chain_holds(turned, book, court, QUESTION, chain), False)
                later = put_at(lands, (number, 0, 0, 1), 2)
                self.assertIs(chain_holds(later, book, court, QUESTION, chain), False)

    def test_the_way_of_a_step_but_not_of_a_next(self):
        for name, number, alike in (
            ("taken, named", 0, False), ("taken, named", 1, True), ("court, alone", 0, False),
            ("court, alone", 1, False), ("self", 1, True), ("open", 0, True), ("court, court", 1, False),
        ):
            lands, book, court = CASES[name]
            for way in range(3):
                turned = put_at(lands, (number, 0, 0, 3), way)
                told = chain_holds(turned, book, court, QUESTION, CHAINS[name])
                self.assertIs(told, alike or turned == lands, (name, way))


class Bounds(Checked):
    def test_a_trail_of_sixty_facts(self):
        facts = tuple((who, 2, 0, ("with", who + 1)) for who in range(59)) + ((59, 2, 0, ("in", 1)),)
        lands = (land([(3, 0, 2, COURT)]), EMPTY)
        question = (3, 0, LAST_DAY)
        chain = (("court", 0, ("in", 1, facts)), ("none", 1))
        self.assertIs(chain_holds(lands, facts, 0, question, chain), True)
        for place in range(60):
            for path, new in (
                ((place, 0), place + 1), ((place, 1), 1), ((place, 2), False), ((place, 3), ("in", 0)),
                ((place,), list(facts[place])), ((place, 3), list(facts[place][3])),
            ):
                changed = put_at(chain, (0, 2, 2), put_at(facts, path, new))
                self.assertIs(chain_holds(lands, facts, 0, question, changed), False)
            fewer = put_at(chain, (0, 2, 2), facts[:place] + facts[place + 1:])
            self.assertIs(chain_holds(lands, facts, 0, question, fewer), False)
            twice = put_at(chain, (0, 2, 2), facts[:place] + facts[place:place + 1] + facts[place:])
            self.assertIs(chain_holds(lands, facts, 0, question, twice), False)

    def test_a_round_of_three_among_five(self):
        lands = tuple(land([(3, LAST_DAY, role, COURT)]) for role in (0, 1, 2, 0, 1))
        book = (at_once(99, 0, 1), at_once(99, 1, 2), at_once(99, 2, 0))
        question = (3, 99, LAST_DAY)
        chains = [plain_chain(lands, book, court, question) for court in range(5)]
        self.assertEqual([len(chain) for chain in chains], [3, 3, 3, 4, 4])
        for court in range(5):
            for other in range(5):
                told = chain_holds(lands, book, court, question, chains[other])
                self.assertIs(told, court == other)

    def test_a_large_thing_with_a_right_beginning(self):
        for name, chain in CHAINS.items():
            self.bad(name, chain + (chain[0],) * 15000)
            self.bad(name, chain[:1] * 15000)
            self.bad(name, put_at(chain, (0,), chain[0] + (0,) * 19000))

    def test_what_is_somewhat_beyond(self):
        lands, book, _ = CASES["court, court"]
        for court in (-1, 2, 5):
            self.assertIs(chain_holds(lands, book, court, QUESTION, (("none", court),)), True)
            self.assertIs(chain_holds(lands, book, court, QUESTION, CHAINS["court, court"]), False)


if __name__ == "__main__":
    unittest.main()
