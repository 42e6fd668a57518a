"""The document's points 9 to 16, told once more by their words and without the program.

What a chain and an answer came by is noted on the way: so that what a tree
names can be compared with what was looked at in truth.
"""


class Notes:
    """What was named and looked at: rules, facts and pairs."""

    def __init__(self):
        self.rules, self.facts, self.pairs = set(), set(), set()

    def told(self):
        return tuple(tuple(sorted(noted)) for noted in (self.rules, self.facts, self.pairs))


def plain_fact(book, who, role, day, notes):
    notes.pairs.add((who, role))
    elder = [fact for fact in book if (fact[0], fact[1]) == (who, role) and fact[2] <= day]
    if not elder:
        return None
    fact = max(elder, key=lambda each: each[2])
    notes.facts.add(fact)
    return fact


def plain_trail(book, pair, day, notes=None):
    notes = notes or Notes()
    who, role = pair
    through = [who]
    facts = ()
    while True:
        fact = plain_fact(book, through[-1], role, day, notes)
        if fact is None:
            return ("open", through[-1], facts)
        facts += (fact,)
        word, number = fact[3]
        if word == "in":
            return ("in", number, facts)
        if number in through:
            return ("round", number, facts)
        through.append(number)


def plain_rule(lands, number, question):
    kind, _, day = question
    rules = [rule for rule in lands[number][0] if rule[0] == kind and rule[1] <= day]
    return max(rules, key=lambda rule: rule[1]) if rules else None


def plain_named(lands, book, number, question, notes):
    """The trail of a land's rule and the land that it names: None and None where there is no rule."""
    rule = plain_rule(lands, number, question)
    if rule is None:
        return None, None
    notes.rules.add((number, question[0], rule[1]))
    trail = plain_trail(book, (question[1], rule[2]), question[2], notes)
    return trail, trail[1] if trail[0] == "in" else None


def plain_step(lands, book, number, question, notes=None):
    notes = notes or Notes()
    trail, other = plain_named(lands, book, number, question, notes)
    if trail is None:
        return ("none", number)
    if other is None:
        return ("open", number, trail)
    if other == number:
        return ("self", number, trail)
    way = plain_rule(lands, number, question)[3]
    if way == 0:
        return ("alone", number, trail)
    if way == 2:
        return ("court", number, trail)
    far, third = plain_named(lands, book, other, question, notes)
    if far is None:
        return ("taken", number, trail, ("none", other))
    word = "open" if third is None else "self" if third == other else "named"
    return ("taken", number, trail, (word, other, far))


def plain_chain(lands, book, court, question, notes=None):
    chain = (plain_step(lands, book, court, question, notes),)
    while chain[-1][0] == "court" and chain[-1][2][1] not in [step[1] for step in chain]:
        chain += (plain_step(lands, book, chain[-1][2][1], question, notes),)
    return chain


def plain_decided(lands, question, chain):
    last = chain[-1]
    if last[0] in ("none", "open", "self"):
        return (last[1], last[1])
    if last[0] == "alone":
        return (last[1], last[2][1])
    if last[0] == "taken":
        word, other = last[3][:2]
        return (last[1], last[3][2][1] if word == "named" else other)
    places = [step[1] for step in chain]
    eldest = sorted(
        (plain_rule(lands, number, question)[1], number) for number in places[places.index(last[2][1]):]
    )[0][1]
    return (eldest, eldest)


def plain_saying(lands, number, question):
    customs = [custom for custom in lands[number][1] if custom[0] == question[0] and custom[1] <= question[2]]
    return max(customs, key=lambda custom: custom[1])[2] if customs else ("say", 0)


def plain_answer(lands, book, court, question, notes=None):
    notes = notes or Notes()
    chain = plain_chain(lands, book, court, question, notes)
    seat, source = plain_decided(lands, question, chain)
    saying = plain_saying(lands, source, question)
    entries = ()
    while saying[0] == "ask":
        _, kind, whose, mode, yes, no = saying
        fact = None if whose is None else plain_fact(book, question[1], whose, question[2], notes)
        if whose is not None and (fact is None or fact[3][0] == "in"):
            answer, entry = 0, ("nobody", fact)
        else:
            one = question[1] if whose is None else fact[3][1]
            answer, tree = plain_answer(lands, book, (seat, source)[mode], (kind, one, question[2]), notes)
            entry = ("same", tree) if whose is None else ("with", fact, tree)
        entries += (entry,)
        saying = yes if answer else no
    return saying[1], (chain, entries)
