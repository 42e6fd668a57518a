import copy
import itertools
import random
import unittest

from refusing import Refusing
from samples import EMPTY, at_once, beside, is_plain, land, say, things_of_every_kind
from whoselaw.errors import NoText
from whoselaw.facts import is_book
from whoselaw.lands import are_lands
from whoselaw.texts import book_text, read_book, rules_text
from worlds import full_worlds, shuffled

LAST_DAY = 10 ** 9
TWO = (EMPTY, EMPTY)
FIVE = (EMPTY,) * 5
BOOK = ((5, 0, 0, ("in", 1)), (5, 0, 20, ("with", 17)), (17, 3, LAST_DAY, ("in", 0)))
TEXT = "5 0 0 in 1\n5 0 20 with 17\n17 3 1000000000 in 0"


def plain_text(book):
    """By the document's words: a row for each fact, one blank between two words, a line end between two rows."""
    rows = []
    for who, role, day, at in book:
        rows.append(" ".join([str(who), str(role), str(day), at[0], str(at[1])]))
    return "\n".join(rows)


class BookTexts(unittest.TestCase):
    def there_and_back(self, lands, book):
        self.assertTrue(is_book(lands, book))
        text = book_text(book)
        self.assertIs(type(text), str)
        self.assertEqual(text, plain_text(book))
        told = read_book(lands, text)
        self.assertEqual(told, book)
        self.assertTrue(is_plain(told))
        return text

    def test_no_facts_one_and_some(self):
        self.assertEqual(self.there_and_back(TWO, ()), "")
        self.assertEqual(self.there_and_back(TWO, BOOK[:1]), "5 0 0 in 1")
        self.assertEqual(self.there_and_back(TWO, BOOK), TEXT)

    def test_sixty(self):
        book = tuple(at_once(who, 0, who % 5, LAST_DAY - who) for who in range(40, 100))
        self.assertEqual(self.there_and_back(FIVE, book).count("\n"), 59)

    def test_each_number_at_its_bounds(self):
        days = (0, 1, 9, 10, 99, LAST_DAY - 1, LAST_DAY)
        for who, role, day in itertools.product((0, 1, 9, 10, 98, 99), range(4), days):
            for at in [("in", number) for number in range(5)] + [("with", one) for one in (0, 9, 10, 99) if one != who]:
                self.there_and_back(FIVE, ((who, role, day, at),))

    def test_many_books(self):
        for lands, book in full_worlds(100, 351):
            self.there_and_back(lands, book)

    def test_asked_again_behind_others_it_tells_the_same(self):
        worlds = full_worlds(40, 353)
        kept = copy.deepcopy(worlds)
        texts = [book_text(book) for _, book in worlds]
        for place in shuffled(len(worlds), 355):
            self.assertEqual(book_text(worlds[place][1]), texts[place])
            self.assertEqual(read_book(worlds[place][0], texts[place]), worlds[place][1])
        self.assertEqual(worlds, kept)


class NoTexts(Refusing):
    def no_text(self, thing, lands=TWO):
        self.refused(NoText, read_book, lands, thing)

    def test_a_blank_or_a_line_end_more_anywhere(self):
        for text in (TEXT, "5 0 0 in 1", ""):
            for place in range(len(text) + 1):
                for sign in (" ", "\n", "  ", "\n\n", " \n", "\n "):
                    made = text[:place] + sign + text[place:]
                    self.no_text(made)

    def test_a_sign_fewer_anywhere(self):
        for place in range(len(TEXT)):
            made = TEXT[:place] + TEXT[place + 1:]
            book = by_hand(made)
            if book is None:
                self.no_text(made)
            else:
                self.assertEqual(read_book(TWO, made), book)

    def test_another_sign_anywhere(self):
        many = 0
        for place in range(len(TEXT)):
            for code in list(range(32, 127)) + [10]:
                made = TEXT[:place] + chr(code) + TEXT[place + 1:]
                book = by_hand(made)
                if book is None:
                    many += 1
                    self.no_text(made)
                else:
                    self.assertEqual(read_book(TWO, made), book)
        self.assertGreater(many, 4000)

    def test_rows_that_are_not_rising_or_twice(self):
        rows = TEXT.split("\n")
        for order in itertools.permutations(rows):
            if list(order) != rows:
                self.no_text("\n".join(order))
        for place in range(3):
            self.no_text("\n".join(rows[:place] + rows[place:place + 1] + rows[place:]))
        self.no_text("5 0 0 in 1\n5 0 0 with 1")
        self.no_text("5 0 0 in 0\n5 0 0 in 1")

    def test_sixty_one_rows(self):
        book = tuple(at_once(who, 0, 0) for who in range(61))
        self.no_text(plain_text(book))
        self.assertEqual(read_book(TWO, plain_text(book[:60])), book[:60])

    def test_noughts_and_signs_ahead(self):
        words = ["5", "0", "20", "in", "1"]
        for place in (0, 1, 2, 4):
            for made in ("0" + words[place], "00" + words[place], "+" + words[place], "-" + words[place],
                         words[place] + ".", words[place] + ".0", "", "x", words[place] + "x", "0x1", "1e0", "1_0",
                         "_1"):
                self.no_text(" ".join(words[:place] + [made] + words[place + 1:]))
        self.no_text("00 0 0 in 0")
        self.no_text("-0 0 0 in 0")

    def test_numbers_beyond_their_bounds(self):
        for text in ("100 0 0 in 0", "0 4 0 in 0", "0 0 1000000001 in 0", "0 0 0 in 2", "0 0 0 with 100",
                     "0 0 0 with 0", "7 0 0 with 7", "99 0 0 with 99", "0 0 9999999999 in 0", "0 0 10000000000 in 0",
                     "0 0 0 in 5"):
            self.no_text(text)
        self.no_text("0 0 0 in 1", (EMPTY,))
        self.assertEqual(read_book(FIVE, "0 0 0 in 4"), ((0, 0, 0, ("in", 4)),))
        self.no_text("0 0 0 in 5", FIVE)

    def test_numbers_of_thousands_of_figures(self):
        for many in (11, 20, 100, 1000, 4299, 4300, 4301, 5900):
            for figures in ("1" * many, "9" * many, "0" * many, "0" * (many - 1) + "1"):
                for place in (0, 1, 2, 4):
                    words = ["5", "0", "20", "in", "1"]
                    words[place] = figures
                    self.no_text(" ".join(words))
                self.no_text(figures)
                self.no_text(TEXT + "\n" + figures)

    def test_other_words_capitals_and_too_few_or_too_many(self):
        for word in ("IN", "In", "iN", "WITH", "With", "at", "no", "on", "i", "inn", "withh", "wit", "", "1", "land",
                     "i n"):
            self.no_text(f"5 0 0 {word} 1")
        for text in ("5 0 0 in", "5 0 0 1", "5 0 in 1", "0 0 in 1", "5 0 0 in 1 1", "5 0 0 in in 1", "5 0 0 in 1 in",
                     "5 0 0 with", "in", "with", "5", "5 0 0", "fact 5 0 0 in 1", "5 0 0 in with 1", "-", "no"):
            self.no_text(text)
            self.no_text(TEXT + "\n" + text)
            self.no_text(text + "\n" + TEXT)

    def test_other_signs_that_are_figures_or_blanks_elsewhere(self):
        for sign in ("\t", "\r", "\v", "\f", "\x1c", "\x85", "\u00a0", "\u2003", "\u2028", "\ufeff", "\0"):
            for place in range(len(TEXT) + 1):
                self.no_text(TEXT[:place] + sign + TEXT[place:])
            self.no_text(TEXT.replace(" ", sign))
            self.no_text(TEXT.replace("\n", sign))
        for figure in ("\u0665", "\u00b2", "\uff15", "\u2460"):
            self.no_text(f"{figure} 0 0 in 1")

    def test_things_of_every_kind(self):
        more = [(), (TEXT,), [TEXT], {TEXT: TEXT}, BOOK, [BOOK], b"", b"5 0 0 in 1", [""]]
        for thing in things_of_every_kind() + more:
            if thing != "":
                self.no_text(thing)
        self.assertEqual(read_book(TWO, ""), ())
        for text in ("x" * 6000, " " * 6000, "\n" * 6000, "5 0 0 in 1\n" * 545, "0 " * 3000, "0\n" * 3000):
            self.no_text(text)

    def test_a_text_of_other_lands(self):
        many = 0
        for lands, book in full_worlds(60, 357):
            for fewer in range(1, len(lands)):
                less = lands[:fewer]
                if is_book(less, book):
                    self.assertEqual(read_book(less, book_text(book)), book)
                else:
                    many += 1
                    self.no_text(book_text(book), less)
        self.assertGreater(many, 30)

    def test_changed_texts_of_many_books(self):
        dice = random.Random(359)
        told = []
        for lands, book in full_worlds(100, 361):
            text = book_text(book)
            for _ in range(30):
                place = dice.randrange(len(text) + 1)
                made = text[:place] + dice.choice("0123456789 \ninwth-") + text[place + dice.randrange(2):]
                due = by_hand(made, lands)
                told.append(due is not None)
                if due is None:
                    self.no_text(made, lands)
                else:
                    self.assertEqual(read_book(lands, made), due)
        self.assertGreater(min(told.count(True), told.count(False)), 100)


def by_hand(text, lands=TWO):
    """The book whose text it is, by trying; None, where there is none."""
    book = []
    for row in text.split("\n") if text else ():
        words = row.split(" ")
        if len(words) != 5 or not all(word.isdigit() and len(word) < 20 for word in words[:3] + words[4:]):
            return None
        who, role, day, number = (int(word) for word in words[:3] + words[4:])
        book.append((who, role, day, (words[3], number)))
    book = tuple(book)
    return book if is_book(lands, book) and plain_text(book) == text else None


class RulesTexts(unittest.TestCase):
    def test_lands_without_rules(self):
        for lands in ((EMPTY,), FIVE, (land([], [(0, 0, say(1))]), EMPTY)):
            self.assertEqual(rules_text(lands), "")

    def test_the_three_words(self):
        lands = (land([(0, 0, 0, 0), (1, 20, 1, 1), (3, LAST_DAY, 2, 2)]),)
        self.assertEqual(rules_text(lands), "0 0 0 0 alone\n0 1 20 1 taken\n0 3 1000000000 2 court")

    def test_land_by_land(self):
        lands = (land([(3, 0, 0, 2)]), EMPTY, land([(0, 1, 2, 0), (0, 2, 2, 1)]))
        self.assertEqual(rules_text(lands), "0 3 0 0 court\n2 0 1 2 alone\n2 0 2 2 taken")

    def test_twelve_rules_of_five_lands(self):
        rules = [(kind, since, kind % 3, since % 3) for kind in range(4) for since in (0, 7, LAST_DAY)]
        lands = (land(rules),) * 5
        self.assertTrue(are_lands(lands))
        rows = rules_text(lands).split("\n")
        self.assertEqual(len(rows), 60)
        self.assertEqual((rows[0], rows[1], rows[-1]), ("0 0 0 0 alone", "0 0 7 0 taken", "4 3 1000000000 0 taken"))

    def test_many_lands(self):
        for lands, _ in full_worlds(60, 363):
            due = [
                " ".join([str(number), str(kind), str(since), str(role), ["alone", "taken", "court"][way]])
                for number, each in enumerate(lands) for kind, since, role, way in each[0]
            ]
            told = rules_text(lands)
            self.assertEqual(told, "\n".join(due))
            self.assertIs(type(told), str)
            self.assertEqual(rules_text(lands), told)

    def test_facts_with_each_word(self):
        self.assertEqual(book_text((at_once(0, 0, 0), beside(0, 1, 99))), "0 0 0 in 0\n0 1 0 with 99")


if __name__ == "__main__":
    unittest.main()
