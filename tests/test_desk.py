import copy
import itertools
import random
import unittest

from plain import plain_answer
from samples import EMPTY, ask, land, put_at, say, things_of_every_kind
from whoselaw.desk import Desk
from whoselaw.facts import is_book
from whoselaw.lands import are_lands, is_rule
from whoselaw.texts import book_text, rules_text
from worlds import thrown_worlds

LAST_DAY = 10 ** 9
WAYS = ("alone", "taken", "court")
# Land 0 goes by role 0 to another court; land 1 by role 1, alone; land 2 has no rule.
LANDS = (
    land([(0, 0, 0, 2)], [(0, 0, say(1)), (1, 0, ask(0, say(5), say(6), 1))]),
    land([(0, 0, 1, 0)], [(0, 0, say(2))]),
    land([], [(0, 0, say(3))]),
)
RULES = "0 0 0 0 court\n1 0 0 1 alone"


class Desks(unittest.TestCase):
    def setUp(self):
        self.desk = Desk(LANDS)

    def says(self, *rows):
        """Rows, each with what it is answered."""
        for row, due in zip(rows[::2], rows[1::2]):
            told = self.desk.say(row)
            self.assertEqual(told, due, row)
            self.assertIs(type(told), str)

    def seen(self):
        return [self.desk.say(row) for row in ("book", "rules", "names")]

    def stays(self, row, due):
        before = self.seen()
        self.says(row, due)
        self.assertEqual(self.seen(), before)


class Facts(Desks):
    def test_kept(self):
        self.says("book", "-", "fact 7 0 0 in 1", "kept", "book", "7 0 0 in 1", "fact 5 3 20 with 7", "kept",
                  "book", "5 3 20 with 7\n7 0 0 in 1")

    def test_at_the_bounds(self):
        self.says("fact 0 0 0 in 0", "kept", "fact 99 3 1000000000 in 2", "kept", "fact 0 1 0 with 99", "kept",
                  "fact 99 0 0 with 0", "kept")

    def test_no_fact(self):
        self.says("fact 7 0 0 in 1", "kept")
        for row in ("fact 100 0 0 in 1", "fact 7 4 0 in 1", "fact 7 0 1000000001 in 1", "fact 7 0 0 in 3",
                    "fact 7 0 0 with 7", "fact 7 0 0 with 100", "fact 9999999999 0 0 in 1", "fact 7 9999999999 0 in 1",
                    "fact 7 0 9999999999 in 1", "fact 7 0 0 in 9999999999", "fact 7 0 0 with 9999999999"):
            self.stays(row, "no fact")

    def test_twice(self):
        self.says("fact 7 0 0 in 1", "kept")
        for row in ("fact 7 0 0 in 1", "fact 7 0 0 in 2", "fact 7 0 0 with 9"):
            self.stays(row, "twice")
        self.stays("fact 7 0 0 with 7", "no fact")

    def test_too_many(self):
        for who in range(60):
            self.says(f"fact {who} 0 0 in 0", "kept")
        self.stays("fact 60 0 0 in 0", "too many")
        self.stays("fact 59 0 0 in 1", "twice")
        self.stays("fact 60 0 0 in 3", "no fact")
        self.says("unfact 0 0 0", "gone", "fact 60 0 0 in 0", "kept")

    def test_unfact(self):
        self.says("unfact 7 0 0", "not told", "fact 7 0 0 in 1", "kept", "fact 7 0 1 in 1", "kept")
        for row in ("unfact 7 0 2", "unfact 7 1 0", "unfact 8 0 0", "unfact 9999999999 9999999999 9999999999"):
            self.stays(row, "not told")
        self.says("unfact 7 0 0", "gone", "unfact 7 0 0", "not told", "book", "7 0 1 in 1", "unfact 7 0 1", "gone",
                  "book", "-")


class Rules(Desks):
    def test_kept(self):
        self.says("rules", RULES, "rule 2 3 1000000000 2 taken", "kept", "rules", RULES + "\n2 3 1000000000 2 taken",
                  "rule 0 0 0 1 alone", "kept", "rules", "0 0 0 1 alone\n1 0 0 1 alone\n2 3 1000000000 2 taken")

    def test_each_way(self):
        for way in WAYS:
            self.says(f"rule 2 1 5 1 {way}", "kept", "rules", f"{RULES}\n2 1 5 1 {way}")

    def test_no_rule(self):
        for row in ("rule 3 0 0 0 court", "rule 0 4 0 0 court", "rule 0 0 1000000001 0 court", "rule 0 0 0 3 court",
                    "rule 9999999999 0 0 0 court", "rule 0 9999999999 0 0 court", "rule 0 0 9999999999 0 court",
                    "rule 0 0 0 9999999999 court"):
            self.stays(row, "no rule")

    def test_too_many(self):
        for since in range(12):
            self.says(f"rule 2 1 {since} 0 court", "kept")
        self.stays("rule 2 1 12 0 court", "too many")
        self.stays("rule 2 1 12 3 court", "no rule")
        self.says("rule 2 1 11 2 alone", "kept", "unrule 2 1 0", "gone", "rule 2 1 12 0 court", "kept")

    def test_unrule(self):
        for row in ("unrule 2 0 0", "unrule 0 0 1", "unrule 0 1 0", "unrule 3 0 0", "unrule 9999999999 0 0",
                    "unrule 0 9999999999 0", "unrule 0 0 9999999999"):
            self.stays(row, "not told")
        self.says("unrule 0 0 0", "gone", "unrule 0 0 0", "not told", "rules", "1 0 0 1 alone", "unrule 1 0 0", "gone",
                  "rules", "-")


class Questions(Desks):
    def test_a_chain_of_one_step(self):
        self.says("ask a 2 0 7 5", "3 2 none", "ask b 0 0 7 5", "1 0 open", "fact 7 0 0 in 0", "kept",
                  "ask c 0 0 7 5", "1 0 self", "fact 7 1 0 in 2", "kept", "ask d 1 0 7 5", "3 1 alone",
                  "rule 1 0 0 1 taken", "kept", "ask e 1 0 7 5", "3 1 taken")

    def test_a_chain_of_several(self):
        self.says("fact 7 0 0 in 1", "kept", "ask a 0 0 7 5", "2 0 court 1 open", "fact 7 1 0 in 2", "kept",
                  "ask b 0 0 7 5", "3 0 court 1 alone", "rule 1 0 0 1 court", "kept", "ask c 0 0 7 5",
                  "3 0 court 1 court 2 none", "rule 2 0 0 2 court", "kept", "ask d 0 0 7 5", "3 0 court 1 court 2 open")

    def test_a_round(self):
        self.says("fact 7 0 0 in 1", "kept", "fact 7 1 0 in 0", "kept", "rule 1 0 0 1 court", "kept",
                  "ask a 0 0 7 5", "1 0 court 1 court round", "ask b 1 0 7 5", "1 1 court 0 court round",
                  "rule 2 0 0 0 court", "kept", "ask c 2 0 7 5", "1 2 court 1 court 0 court round")
        # A trail that goes round is no round of the chain.
        self.says("fact 8 0 0 with 9", "kept", "fact 9 0 0 with 8", "kept", "ask d 0 0 8 5", "1 0 open")

    def test_a_round_of_two_behind_another_land(self):
        desk = Desk((EMPTY, land([(0, 0, 1, 2)]), land([(0, 0, 2, 2)]), land([(0, 0, 0, 2)])))
        for row in ("fact 7 1 0 in 2", "fact 7 2 0 in 1", "fact 7 0 0 in 1"):
            self.assertEqual(desk.say(row), "kept")
        self.assertEqual(desk.say("ask a 1 0 7 5"), "0 1 court 2 court round")
        self.assertEqual(desk.say("ask b 3 0 7 5"), "0 3 court 1 court 2 court round")

    def test_no_question(self):
        self.says("ask a 0 0 7 5", "1 0 open")
        for row in ("ask b 3 0 7 5", "ask b 0 4 7 5", "ask b 0 0 100 5", "ask b 0 0 7 1000000001",
                    "ask b 9999999999 0 7 5", "ask b 0 9999999999 7 5", "ask b 0 0 9999999999 5",
                    "ask b 0 0 7 9999999999", "ask a 3 0 7 5", "ask a 0 4 7 5", "ask a 0 0 100 5"):
            self.stays(row, "no question")
        self.says("ask b 2 3 99 1000000000", "0 2 none", "ask c 0 0 0 0", "1 0 open")

    def test_twice(self):
        self.says("ask a 0 0 7 5", "1 0 open", "fact 7 0 0 in 2", "kept")
        for row in ("ask a 0 0 7 5", "ask a 2 0 7 5", "ask a 1 3 99 0"):
            self.stays(row, "twice")
        self.says("still a", "no", "again a", "3", "drop a", "gone", "ask a 2 0 7 5", "3 2 none")

    def test_again_and_still(self):
        self.says("ask a 0 0 7 5", "1 0 open", "still a", "yes", "again a", "1", "fact 7 0 0 in 1", "kept",
                  "still a", "no", "still a", "no", "again a", "2", "still a", "yes", "unrule 0 0 0", "gone",
                  "still a", "no", "rule 0 0 0 0 court", "kept", "still a", "yes", "unfact 7 0 0", "gone",
                  "still a", "no", "again a", "1", "again a", "1")

    def test_not_told(self):
        for row in ("again a", "still a", "drop a"):
            self.stays(row, "not told")
        self.says("ask a 0 0 7 5", "1 0 open", "ask aaaaaaaa 0 0 7 5", "1 0 open")
        for row in ("again b", "still aa", "drop aaaaaaa"):
            self.stays(row, "not told")
        self.says("drop a", "gone", "drop a", "not told", "again a", "not told", "still a", "not told")

    def test_names(self):
        self.says("names", "-", "ask b 0 0 7 5", "1 0 open", "names", "b", "ask zzzzzzzz 0 0 7 5", "1 0 open",
                  "ask a 0 0 7 5", "1 0 open", "ask ab 0 0 7 5", "1 0 open", "names", "a ab b zzzzzzzz",
                  "drop b", "gone", "names", "a ab zzzzzzzz")

    def test_answers_with_asks(self):
        self.says("fact 7 1 0 with 8", "kept", "ask a 0 1 7 5", "5 0 none", "unfact 7 1 0", "gone", "again a", "6")

    def test_names_that_are_words_of_rows(self):
        for name in ("fact", "ask", "in", "with", "book", "names", "court", "round", "no"):
            self.says(f"ask {name} 0 0 7 5", "1 0 open", f"still {name}", "yes")
        self.says("names", "ask book court fact in names no round with")


ROWS = (
    "fact 7 0 10 in 1", "fact 7 0 10 with 12", "unfact 7 0 10", "rule 0 1 20 2 taken", "unrule 0 0 10",
    "ask ab 0 1 17 30", "again ab", "still ab", "drop ab", "book", "rules", "names",
)


class NoRows(Desks):
    def test_a_word_more_fewer_twice_or_exchanged(self):
        for row in ROWS:
            words = row.split(" ")
            for place in range(len(words)):
                self.stays(" ".join(words[:place] + words[place + 1:]), "no row")
                self.stays(" ".join(words[:place] + words[place:place + 1] + words[place:]), "no row")
            for more in ("0", "in", "ab", "x", "", "court"):
                self.stays(row + " " + more, "no row")
                self.stays(more + " " + row, "no row")
            for low, high in itertools.combinations(range(len(words)), 2):
                made = list(words)
                made[low], made[high] = made[high], made[low]
                if not is_row(" ".join(made)):
                    self.stays(" ".join(made), "no row")

    def test_capitals(self):
        for row in ROWS:
            for place in range(len(row)):
                if row[place].isalpha():
                    self.stays(row[:place] + row[place].upper() + row[place + 1:], "no row")
            self.stays(row.upper(), "no row")
            self.stays(row.title(), "no row")

    def test_a_blank_or_a_line_end_more(self):
        for row in ROWS:
            for place in range(len(row) + 1):
                for sign in (" ", "\n", "  ", "\t"):
                    made = row[:place] + sign + row[place:]
                    if not is_row(made):
                        self.stays(made, "no row")
            for made in (row + "\n", "\n" + row, row + " ", " " + row, row.replace(" ", "  "), row.replace(" ", "\n")):
                if made != row:
                    self.stays(made, "no row")

    def test_noughts_and_signs_ahead(self):
        for row in ROWS:
            words = row.split(" ")
            for place, word in enumerate(words):
                if word.isdigit():
                    for made in ("0" + word, "00" + word, "+" + word, "-" + word, word + ".", "x", "", word + "x", "-",
                                 "1_0", "0x1", "1e1"):
                        self.stays(" ".join(words[:place] + [made] + words[place + 1:]), "no row")

    def test_numbers_of_eleven_and_of_thousands_of_figures(self):
        for row in ROWS:
            words = row.split(" ")
            for place, word in enumerate(words):
                if word.isdigit():
                    for many in (11, 12, 100, 4300, 4301, 5900):
                        for figure in "19":
                            made = words[:place] + [figure * many] + words[place + 1:]
                            self.stays(" ".join(made), "no row")
                    # Of ten figures it is a row, whatever it is answered.
                    made = words[:place] + ["9" * 10] + words[place + 1:]
                    self.assertIn(self.desk.say(" ".join(made)), ("no fact", "no rule", "no question", "not told"))
                    for noughts in ("00", "0" * 10, "0" * 5000):
                        self.stays(" ".join(words[:place] + [noughts] + words[place + 1:]), "no row")

    def test_names_that_are_none(self):
        self.says("ask ab 0 0 7 5", "1 0 open")
        for name in ("abcdefghi", "a" * 5000, "", "a1", "1", "a-b", "a_b", "A", "aB", "a\n", "\na", "ab.", "\u00e4",
                     "a\u00df", "*", "~", "`", "{"):
            for row in (f"ask {name} 0 0 7 5", f"again {name}", f"still {name}", f"drop {name}"):
                self.stays(row, "no row")

    def test_words_of_no_way_and_no_place(self):
        for way in ("0", "1", "2", "", "Court", "courts", "cour", "named", "self", "open", "none", "in", "with",
                    "al one"):
            self.stays(f"rule 0 0 0 0 {way}", "no row")
        for word in ("at", "", "In", "inn", "wit", "0", "no", "court", "land"):
            self.stays(f"fact 7 0 0 {word} 1", "no row")

    def test_other_rows(self):
        for row in ("", " ", "\n", "-", "no row", "kept", "facts", "ask", "say", "unask a", "name", "Book", "tree a",
                    "land 0", "book 0", "rules 0", "names a", "turned", "7 0 0 in 1", "0 0 0 0 court", "x" * 6000,
                    " " * 6000,
                    "book\nbook", "book\n", "fact", "fact 7", "fact 7 0 0", "fact 7 0 0 in", "fact 7 0 0 1"):
            self.stays(row, "no row")
        for thing in things_of_every_kind() + [(), ("book",), ["book"], {"book": 1}]:
            self.stays(thing, "no row")

    def test_what_stands_first_makes_no_row_another_one(self):
        """A row is none before it is a wrong one: bounds are looked at behind its form."""
        for row in ("fact 100 0 00 in 1", "fact 7 4 0 at 1", "rule 9 0 0 0 way", "ask a1 9 0 7 5", "ask a 9 0 7 05",
                    "unfact 100 00 0", "unrule 9 0 00"):
            self.stays(row, "no row")


def is_row(row):
    """Whether it has the form of one of the rows, told once more by the document's words."""
    forms = {
        "fact": "nnnpn", "unfact": "nnn", "rule": "nnnnw", "unrule": "nnn", "ask": "annnn", "again": "a", "still": "a",
        "drop": "a", "book": "", "rules": "", "names": "",
    }
    first, *words = row.split(" ")
    if first not in forms or len(words) != len(forms[first]):
        return False
    return all(is_word(letter, word) for letter, word in zip(forms[first], words))


def is_word(letter, word):
    if letter == "n":
        return 1 <= len(word) <= 10 and set(word) <= set("0123456789") and (word == "0" or word[0] != "0")
    if letter == "a":
        return 1 <= len(word) <= 8 and set(word) <= set("abcdefghijklmnopqrstuvwxyz")
    return word in (("in", "with") if letter == "p" else WAYS)


class Apart(Desks):
    def test_two_desks_of_the_same_lands_have_each_their_own(self):
        kept = copy.deepcopy(LANDS)
        other = Desk(LANDS)
        self.says("fact 7 0 0 in 1", "kept", "rule 2 0 0 0 court", "kept", "unrule 0 0 0", "gone",
                  "ask a 0 0 7 5", "1 0 none")
        self.assertEqual([other.say(row) for row in ("book", "rules", "names")], ["-", RULES, "-"])
        self.assertEqual(other.say("ask a 0 0 7 5"), "1 0 open")
        self.assertEqual(other.say("fact 7 0 0 in 2"), "kept")
        self.assertEqual(self.desk.say("book"), "7 0 0 in 1")
        self.assertEqual(other.say("drop a"), "gone")
        self.assertEqual(self.desk.say("names"), "a")
        # One that is made behind others' deeds.
        third = Desk(LANDS)
        self.assertEqual([third.say(row) for row in ("book", "rules", "names")], ["-", RULES, "-"])
        self.assertEqual(LANDS, kept)

    def test_lands_without_rules(self):
        desk = Desk((EMPTY,))
        self.assertEqual([desk.say(row) for row in ("book", "rules", "names")], ["-", "-", "-"])

    def test_asked_again_it_tells_the_same(self):
        self.says("fact 7 0 0 in 1", "kept", "ask a 0 0 7 5", "2 0 court 1 open")
        for row in ("book", "rules", "names", "still a", "again a"):
            self.assertEqual(self.desk.say(row), self.desk.say(row))


class Hand:
    """What a desk is told, kept by hand, and answered by the document's words."""

    def __init__(self, lands):
        self.lands, self.facts, self.kept = lands, {}, {}
        self.rules = [{rule[:2]: rule for rule in each[0]} for each in lands]

    def now(self):
        return tuple((tuple(sorted(rows.values())),) + each[1:] for rows, each in zip(self.rules, self.lands))

    def book(self):
        return tuple(sorted(self.facts.values()))

    def say(self, row):
        if not is_row(row):
            return "no row"
        first, *words = row.split(" ")
        numbers = tuple(int(word) for word in words if word.isdigit())
        if first == "fact":
            return self.fact(numbers[:3] + ((words[3], numbers[3]),))
        if first == "unfact":
            return "not told" if self.facts.pop(numbers, None) is None else "gone"
        if first == "rule":
            return self.rule(numbers[0], numbers[1:] + (WAYS.index(words[4]),))
        if first == "unrule":
            rows = self.rules[numbers[0]] if numbers[0] < len(self.lands) else {}
            return "not told" if rows.pop(numbers[1:], None) is None else "gone"
        if first in ("book", "rules", "names"):
            texts = (book_text(self.book()), rules_text(self.now()), " ".join(sorted(self.kept)))
            return dict(zip(("book", "rules", "names"), texts))[first] or "-"
        return self.question(first, words[0], numbers)

    def fact(self, fact):
        if not is_book(self.lands, (fact,)):
            return "no fact"
        if fact[:3] in self.facts:
            return "twice"
        if len(self.facts) == 60:
            return "too many"
        self.facts[fact[:3]] = fact
        return "kept"

    def rule(self, number, rule):
        if number >= len(self.lands) or not is_rule(rule):
            return "no rule"
        if rule[:2] not in self.rules[number] and len(self.rules[number]) == 12:
            return "too many"
        self.rules[number][rule[:2]] = rule
        return "kept"

    def question(self, first, name, numbers):
        if first == "ask":
            court, kind, who, day = numbers
            if court >= len(self.lands) or kind > 3 or who > 99 or day > LAST_DAY:
                return "no question"
            if name in self.kept:
                return "twice"
            self.kept[name] = (court, numbers[1:], plain_answer(self.now(), self.book(), court, numbers[1:]))
            answer, (chain, _) = self.kept[name][2]
            words = [f"{step[1]} {step[0]}" for step in chain] + (["round"] if chain[-1][0] == "court" else [])
            return " ".join([str(answer)] + words)
        if name not in self.kept:
            return "not told"
        court, question, told = self.kept[name]
        now = plain_answer(self.now(), self.book(), court, question)
        if first == "still":
            return "yes" if now == told else "no"
        if first == "drop":
            del self.kept[name]
            return "gone"
        self.kept[name] = (court, question, now)
        return str(now[0])


SAID = (
    "kept", "twice", "no fact", "no rule", "no question", "no row", "not told", "too many", "gone", "yes", "no", "-",
)


class ManyRows(Desks):
    def thrown_row(self, dice):
        number = dice.choice((0, 0, 1, 1, 2, 2, 3, 4, 5, 60, 99, 100, 10 ** 9, 10 ** 9 + 1))
        low = [dice.randrange(4) for _ in range(5)]
        if dice.randrange(5) == 0:
            low[dice.randrange(5)] = number
        name = dice.choice(("a", "b", "ab", "abcdefgh", "abcdefghi"))
        words = {
            "fact": low[:3] + [dice.choice(("in", "with")), low[3]], "unfact": low[:3],
            "rule": low[:4] + [dice.choice(WAYS)], "unrule": low[:3], "ask": [name] + low[:4],
            "again": [name], "still": [name], "drop": [name], "book": [], "rules": [], "names": [],
        }
        first = dice.choice(list(words) + ["fact", "fact", "rule", "ask", "still"])
        row = " ".join([first] + [str(word) for word in words[first]])
        if dice.randrange(15) == 0:
            place = dice.randrange(len(row) + 1)
            row = row[:place] + dice.choice(" 0a\n") + row[place + dice.randrange(2):]
        return row

    def test_against_what_is_kept_by_hand(self):
        dice = random.Random(371)
        told = set()
        for lands, _ in thrown_worlds(25, 373):
            self.desk = Desk(lands)
            hand = Hand(lands)
            for _ in range(250):
                row = self.thrown_row(dice)
                due = hand.say(row)
                self.says(row, due)
                told.add((row.split(" ")[0], due if due in SAID else ""))
            self.assertTrue(are_lands(hand.now()))
        for first, answers in (
            ("fact", ("kept", "no fact", "twice")), ("unfact", ("gone", "not told")),
            ("rule", ("kept", "no rule", "too many")), ("unrule", ("gone", "not told")),
            ("ask", ("", "no question", "twice")), ("again", ("", "not told")), ("still", ("yes", "no", "not told")),
            ("drop", ("gone", "not told")), ("book", ("", "-")), ("rules", ("",)), ("names", ("", "-")),
        ):
            for answer in answers:
                self.assertIn((first, answer), told)

    def test_full_books(self):
        dice = random.Random(375)
        lands = (land([(kind, 0, kind % 3, 2) for kind in range(4)], [(0, 0, say(1))]),) * 5
        self.desk = Desk(put_at(lands, (4,), EMPTY))
        hand = Hand(put_at(lands, (4,), EMPTY))
        for _ in range(400):
            who, role, day = dice.randrange(100), dice.randrange(4), dice.choice((0, 5, LAST_DAY))
            row = f"fact {who} {role} {day} in {dice.randrange(5)}"
            self.says(row, hand.say(row))
        self.assertEqual(len(hand.facts), 60)
        for number, who in enumerate((0, 99, 50)):
            row = f"ask {'abc'[number]} 0 {number} {who} {LAST_DAY}"
            self.says(row, hand.say(row))
        self.says("book", hand.say("book"), "rules", hand.say("rules"))


if __name__ == "__main__":
    unittest.main()
