"""What several tests need: things of every kind, and ways to change what is nested."""

EMPTY = ((), (), (), (), ())
YES = ("say", 1)
NO = ("say", 0)
WORDS = (
    "in", "with", "open", "round", "none", "self", "alone", "taken", "court", "named", "same", "nobody", "say", "ask",
    "land", "ones", "one", "no", "split", "told", "agree", "part", "clash", "turns",
    "later", "strange", "settled", "no party", "binds",
)


def nest(depth, wrap, inmost=0):
    thing = inmost
    for _ in range(depth):
        thing = wrap(thing)
    return thing


def things_of_every_kind():
    """Things made of all that point 2 of the document names; none of them is lands or a trail.

    The empty tuple is left out: it is a book.
    """
    return [
        None, True, False,
        0, 1, -1, 7, 10 ** 9, 10 ** 59, 10 ** 60 - 1, -(10 ** 60 - 1),
        "", " ", "~", "\n", "in", "open", "say", "0", "x" * 6000, "a b\n" * 1500,
        [], {}, [()], ((),), ([],), ({},), (None,), (True,), (0,), ("",), {"a": 1}, {0: ()}, {(): []},
        [0, [1, (2, {"a": None})]], (0, "in", [True], {"in": (0,)}),
        ((0, 0, 0, 0, 0),), (((), (), (), (), ()), 0), ("in", "0"), ("open", 0), ("round", 0, 0),
        nest(40, lambda inner: (inner,)),
        nest(39, lambda inner: (inner,), ()),
        nest(40, lambda inner: [inner]),
        nest(40, lambda inner: {"a": inner}),
        nest(39, lambda inner: (inner, 0, "in", None)),
        nest(38, lambda inner: ("ask", 0, None, 0, ("say", 0), inner), ("say", 0)),
        (0,) * 20000, [0] * 20000, ((),) * 20000, ("in",) * 20000, {key: key for key in range(20000)},
        tuple(range(20000)), ((0,) * 141,) * 141, (None, True) * 10000,
    ]


def paths(thing):
    """The way to each part of nested tuples, the whole (the empty way) first."""
    found = [()]
    if isinstance(thing, tuple):
        for place, part in enumerate(thing):
            found.extend([(place,) + rest for rest in paths(part)])
    return found


def part_at(thing, path):
    for place in path:
        thing = thing[place]
    return thing


def put_at(thing, path, new):
    """The nested tuples with another part at the end of this way."""
    if not path:
        return new
    place = path[0]
    return thing[:place] + (put_at(thing[place], path[1:], new),) + thing[place + 1:]


def is_plain(thing):
    """Whether it is made of Python's own tuples, ints, texts, truths and None only."""
    if type(thing) is tuple:
        return all(is_plain(part) for part in thing)
    return thing is None or type(thing) in (int, str, bool)


def land(rules=(), customs=(), heirs=(), takes=(), reaches=()):
    """A land with these rows and no others."""
    return (tuple(rules), tuple(customs), tuple(heirs), tuple(takes), tuple(reaches))


def say(answer):
    return ("say", answer)


def ask(kind, yes=YES, no=NO, whose=None, mode=0):
    return ("ask", kind, whose, mode, yes, no)


def asking_most():
    """Customs with three asks of each kind, each of the kind below: forty trees for a question of kind 3."""
    customs = [(0, 0, say(1))]
    for kind in (1, 2, 3):
        deep = say(kind)
        for _ in range(3):
            deep = ask(kind - 1, deep, say(0))
        customs.append((kind, 0, deep))
    return customs


def at_once(who, role, place, day=0):
    """A fact by which this role of this one is in a land."""
    return (who, role, day, ("in", place))


def beside(who, role, other, day=0):
    """A fact by which this role of this one is with another one."""
    return (who, role, day, ("with", other))


def long_book(who):
    """Sixty facts: each role goes from this one to nineteen others, until each is in another land."""
    rows = [
        beside((who + one) % 100, role, (who + one + 1) % 100, 10 ** 9) for one in range(19) for role in range(3)
    ]
    rows += [at_once((who + 19) % 100, role, role + 1, 0) for role in range(3)]
    return tuple(sorted(rows))


def changes(thing):
    """The nested tuples with any one part put otherwise, each of them another thing than they are."""
    shown = repr(thing)
    for path in paths(thing):
        for new in other_parts(part_at(thing, path)):
            changed = put_at(thing, path, new)
            if repr(changed) != shown:
                yield changed


def thrown_changes(dice, thing, many):
    """So many of the changes, each part being put otherwise about as often."""
    shown = repr(thing)
    ways = paths(thing)
    found = []
    while len(found) < many:
        path = dice.choice(ways)
        changed = put_at(thing, path, dice.choice(other_parts(part_at(thing, path))))
        if repr(changed) != shown:
            found.append(changed)
    return found


def other_parts(part):
    """What may stand in this part's stead."""
    others = [None, True, False, "", "x", "in", 10 ** 59, (), [], {}, (part,), [part]]
    if type(part) is int:
        others += [part + 1, part - 1, -part, str(part), bool(part)]
    if isinstance(part, str):
        others += WORDS + (part + " ", part.upper(), part[:-1])
    if isinstance(part, tuple):
        others += [list(part), dict(enumerate(part)), part[::-1], part + part]
        others += [part + (more,) for more in (None, 0, "in", ())]
        others += [(more,) + part for more in (None, 0, "in", ())]
    if isinstance(part, tuple) and part:
        others += [part[1:], part[:-1], part[:1] + part, part + part[-1:], part[1:] + part[:1]]
    return others
