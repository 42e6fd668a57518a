"""The document's points 26 and 27, told once more by their words and without the program."""

import itertools

from plain import Notes, plain_answer

WAYS = ROLES = (0, 1, 2)


def all_rules(lands):
    """Each rule as (land, kind, since) with its role and way."""
    return {(number, rule[0], rule[1]): rule[2:] for number, each in enumerate(lands) for rule in each[0]}


def turns_of_rule(lands, key):
    return [key + pair for pair in itertools.product(ROLES, WAYS) if pair != all_rules(lands)[key]]


def plain_turned(lands, turns):
    now = {**all_rules(lands), **{turn[:3]: turn[3:] for turn in turns}}
    return tuple(
        (tuple(rule[:2] + now[(number,) + rule[:2]] for rule in each[0]),) + each[1:]
        for number, each in enumerate(lands)
    )


def plain_court(lands, case, court):
    """The answer of a court in a case, and the rules that its tree names."""
    book, question = case
    notes = Notes()
    return plain_answer(lands, book, court, question, notes)[0], notes.rules


def clashes_in(lands, table):
    """Each case and two lands whose courts have unlike answers in it."""
    found = []
    for number, case in enumerate(table):
        told = [plain_court(lands, case, court)[0] for court in range(len(lands))]
        found += [(number,) + two for two in itertools.combinations(range(len(lands)), 2)
                  if told[two[0]] != told[two[1]]]
    return found


def plain_alike(lands, table):
    return not clashes_in(lands, table)


def rows_of_turns(lands, most):
    """Every lawful row of at most so many turns."""
    keys = sorted(all_rules(lands))
    for many in range(most + 1):
        for chosen in itertools.combinations(keys, many):
            yield from itertools.product(*[turns_of_rule(lands, key) for key in chosen])


def turning_rows(lands, table, most):
    """The rows of at most so many turns by which the lands are alike."""
    return [row for row in rows_of_turns(lands, most) if plain_alike(plain_turned(lands, row), table)]


def branches_due(lands, table, clash, done):
    """The turns that stand below such a clash, done being the rules turned on the way down."""
    case, one, other = clash
    rules = plain_court(lands, table[case], one)[1] | plain_court(lands, table[case], other)[1]
    return sorted(turn for key in rules - set(done) for turn in turns_of_rule(lands, key))


def clash_tree(lands, table, number, pick, done=()):
    """A right tree of clashes, pick choosing one of the clashes; None, where the lands are alike somewhere."""
    clashes = clashes_in(lands, table)
    if not clashes:
        return None
    clash = pick(clashes)
    branches = ()
    for turn in branches_due(lands, table, clash, done) if number else ():
        tree = clash_tree(plain_turned(lands, (turn,)), table, number - 1, pick, done + (turn[:3],))
        if tree is None:
            return None
        branches += ((turn, tree),)
    return ("clash",) + clash + (branches,)


def all_clash_trees(lands, table, number, done=()):
    """Every tree of clashes that holds."""
    found = []
    for clash in clashes_in(lands, table):
        due = branches_due(lands, table, clash, done) if number else ()
        below = [
            [(turn, tree) for tree in all_clash_trees(plain_turned(lands, (turn,)), table, number - 1,
                                                      done + (turn[:3],))]
            for turn in due
        ]
        found += [("clash",) + clash + (branches,) for branches in itertools.product(*below)]
    return found


def plain_clashes_hold(lands, table, number, thing, done=()):
    if type(thing) is not tuple or len(thing) != 5 or repr(thing[0]) != repr("clash"):
        return False
    # By repr True is unlike 1.
    clashes = {repr(clash): clash for clash in clashes_in(lands, table)}
    if repr(thing[1:4]) not in clashes or type(thing[4]) is not tuple:
        return False
    due = branches_due(lands, table, clashes[repr(thing[1:4])], done) if number else []
    if not all(type(branch) is tuple and len(branch) == 2 for branch in thing[4]):
        return False
    if repr([branch[0] for branch in thing[4]]) != repr(due):
        return False
    return all(
        plain_clashes_hold(plain_turned(lands, (turn,)), table, number - 1, tree, done + (turn[:3],))
        for turn, tree in thing[4]
    )


def plain_fewest_holds(lands, table, number, thing):
    if type(thing) is tuple and len(thing) == 2 and thing[0] == "none":
        return plain_clashes_hold(lands, table, number, thing[1])
    if type(thing) is not tuple or len(thing) != 3 or thing[0] != "turns":
        return False
    _, turns, tree = thing
    if repr(turns) not in [repr(row) for row in rows_of_turns(lands, number)]:
        return False
    if not plain_alike(plain_turned(lands, turns), table):
        return False
    return plain_clashes_hold(lands, table, len(turns) - 1, tree) if turns else tree is None
