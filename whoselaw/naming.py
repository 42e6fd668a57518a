"""Naming: which rules and facts a tree names, and which pairs it looks at."""

from whoselaw.chainpaper import seat_and_source
from whoselaw.lands import rule_at
from whoselaw.treepaper import first_saying, saying_behind


def named(lands, question, court, tree):
    # The court isn't asked for again: it is the land of the tree's first step.
    rules = []
    facts = []
    pairs = []
    gather_tree(lands, question, tree, (rules, facts, pairs))
    return tuple(sorted(set(rules))), tuple(sorted(set(facts))), tuple(sorted(set(pairs)))


def gather_tree(lands, question, tree, found):
    """Adds to what is found what the tree names and looks at, and tells the tree's answer."""
    chain, entries = tree
    for step in chain:
        gather_step(lands, question, step, found)
    saying = first_saying(lands, question, seat_and_source(lands, question, chain))
    # Only the answers tell which asks the entries are for, and so which roles were looked at.
    for entry in entries:
        answer = gather_entry(lands, question, saying, entry, found)
        saying = saying_behind(saying, answer)
    return saying[1]


def gather_step(lands, question, step, found):
    gather_course(lands, question, step, found)
    if step[0] == "taken":
        gather_course(lands, question, step[3], found)


def gather_course(lands, question, course, found):
    """Adds the rule and the trail of a step, or of the next within it."""
    if course[0] == "none":
        return
    rules, facts, pairs = found
    kind, who, day = question
    land, trail = course[1:3]
    rule = rule_at(lands, land, kind, day)
    rules.append((land, kind, rule[1]))
    facts.extend(trail[2])
    pairs.extend([fact[:2] for fact in trail[2]])
    if trail[0] == "open":
        pairs.append((trail[1], rule[2]))


def gather_entry(lands, question, saying, entry, found):
    """Adds what the entry of this ask names and looks at, and tells what leads on, 0 for nobody."""
    rules, facts, pairs = found
    who, day = question[1:]
    kind, whose = saying[1:3]
    if entry[0] == "same":
        return gather_tree(lands, (kind, who, day), entry[1], found)
    pairs.append((who, whose))
    fact = entry[1]
    if fact is not None:
        facts.append(fact)
    if entry[0] == "nobody":
        return 0
    return gather_tree(lands, (kind, fact[3][1], day), entry[2], found)
