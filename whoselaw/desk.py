"""The desk: facts, rules and questions told as rows of words, and answered in words."""

from whoselaw.dockets import Docket
from whoselaw.errors import NoFact, NoRule, NotTold, TooMany, Twice
from whoselaw.facts import LAST_ONE
from whoselaw.lands import LAST_DAY, LAST_KIND, WAYS
from whoselaw.realms import Folk, Realm
from whoselaw.shapes import is_number
from whoselaw.texts import book_text, number_in, rules_text

PLACES = ("in", "with")
MOST_LETTERS = 8

# The sorts of words that stand behind a row's first one.
FORMS = {
    "fact": ("number", "number", "number", "place", "number"),
    "unfact": ("number", "number", "number"),
    "rule": ("number", "number", "number", "number", "way"),
    "unrule": ("number", "number", "number"),
    "ask": ("name", "number", "number", "number", "number"),
    "again": ("name",),
    "still": ("name",),
    "drop": ("name",),
    "book": (),
    "rules": (),
    "names": (),
}


def read_row(row):
    """The row's first word, and what the others tell, each of its sort; None, where it is no row."""
    if not isinstance(row, str):
        return None
    first, *words = row.split(" ")
    if first not in FORMS:
        return None
    parts = read_words(FORMS[first], words)
    return None if parts is None else (first, parts)


def read_words(form, words):
    """What the words tell; None, where they haven't this form."""
    if len(words) != len(form):
        return None
    parts = [read_word(sort, word) for sort, word in zip(form, words)]
    return None if None in parts else parts


def read_word(sort, word):
    """What a word of this sort tells; None, where it isn't one."""
    if sort == "number":
        return number_in(word)
    if sort == "way":
        return WAYS.index(word) if word in WAYS else None
    fits = word in PLACES if sort == "place" else is_name(word)
    return word if fits else None


def is_name(word):
    return 1 <= len(word) <= MOST_LETTERS and all(["a" <= sign <= "z" for sign in word])


def say_fact(desk, parts):
    who, role, day, word, number = parts
    try:
        desk.folk.put((who, role, day, (word, number)))
    except NoFact:
        return "no fact"
    except Twice:
        return "twice"
    except TooMany:
        return "too many"
    return "kept"


def say_unfact(desk, parts):
    who, role, day = parts
    try:
        desk.folk.drop(who, role, day)
    except NotTold:
        return "not told"
    return "gone"


def say_rule(desk, parts):
    land, kind, since, role, way = parts
    try:
        desk.realm.put_rule(land, (kind, since, role, way))
    except NoRule:
        return "no rule"
    except TooMany:
        return "too many"
    return "kept"


def say_unrule(desk, parts):
    land, kind, since = parts
    try:
        desk.realm.drop_rule(land, kind, since)
    except NotTold:
        return "not told"
    return "gone"


def say_ask(desk, parts):
    name, court, kind, who, day = parts
    if not is_asked(desk.realm.lands(), court, kind, who, day):
        return "no question"
    try:
        answer = desk.docket.ask(name, court, (kind, who, day))
    except Twice:
        return "twice"
    chain = desk.docket.tree(name)[1][0]
    return f"{answer} {chain_text(chain)}"


def is_asked(lands, court, kind, who, day):
    """Whether there is such a court, and such a question."""
    return (
        is_number(court, 0, len(lands) - 1)
        and is_number(kind, 0, LAST_KIND)
        and is_number(who, 0, LAST_ONE)
        and is_number(day, 0, LAST_DAY)
    )


def chain_text(chain):
    words = [f"{step[1]} {step[0]}" for step in chain]
    # Behind a step court comes another one, but where that land was come through already.
    if chain[-1][0] == "court":
        words.append("round")
    return " ".join(words)


def say_again(desk, parts):
    try:
        return str(desk.docket.again(parts[0]))
    except NotTold:
        return "not told"


def say_still(desk, parts):
    try:
        return "yes" if desk.docket.still(parts[0]) else "no"
    except NotTold:
        return "not told"


def say_drop(desk, parts):
    try:
        desk.docket.drop(parts[0])
    except NotTold:
        return "not told"
    return "gone"


def say_book(desk, parts):
    return book_text(desk.folk.book()) or "-"


def say_rules(desk, parts):
    return rules_text(desk.realm.lands()) or "-"


def say_names(desk, parts):
    return " ".join(desk.docket.names()) or "-"


ACTIONS = {
    "fact": say_fact,
    "unfact": say_unfact,
    "rule": say_rule,
    "unrule": say_unrule,
    "ask": say_ask,
    "again": say_again,
    "still": say_still,
    "drop": say_drop,
    "book": say_book,
    "rules": say_rules,
    "names": say_names,
}


class Desk:
    """A realm, a folk of it and a docket of both, that are spoken to in rows of words."""

    def __init__(self, lands):
        self.realm = Realm(lands)
        self.folk = Folk(self.realm)
        self.docket = Docket(self.realm, self.folk)

    def say(self, row):
        told = read_row(row)
        if told is None:
            return "no row"
        first, parts = told
        action = ACTIONS[first]
        return action(self, parts)
