"""What several tests need: things of every kind, and ways to change what is nested."""


def nest(depth, wrap, inmost=0):
    thing = inmost
    for _ in range(depth):
        thing = wrap(thing)
    return thing


def things_of_every_kind():
    """Things made of all that point 2 of the document names; none of them is lands or a trail.

    The empty tuple is left out: it is a book.
    """
    return [
        None, True, False,
        0, 1, -1, 7, 10 ** 9, 10 ** 59, 10 ** 60 - 1, -(10 ** 60 - 1),
        "", " ", "~", "\n", "in", "open", "say", "0", "x" * 6000, "a b\n" * 1500,
        [], {}, [()], ((),), ([],), ({},), (None,), (True,), (0,), ("",), {"a": 1}, {0: ()}, {(): []},
        [0, [1, (2, {"a": None})]], (0, "in", [True], {"in": (0,)}),
        ((0, 0, 0, 0, 0),), (((), (), (), (), ()), 0), ("in", "0"), ("open", 0), ("round", 0, 0),
        nest(40, lambda inner: (inner,)),
        nest(39, lambda inner: (inner,), ()),
        nest(40, lambda inner: [inner]),
        nest(40, lambda inner: {"a": inner}),
        nest(39, lambda inner: (inner, 0, "in", None)),
        nest(38, lambda inner: ("ask", 0, None, 0, ("say", 0), inner), ("say", 0)),
        (0,) * 20000, [0] * 20000, ((),) * 20000, ("in",) * 20000, {key: key for key in range(20000)},
        tuple(range(20000)), ((0,) * 141,) * 141, (None, True) * 10000,
    ]


def paths(thing):
    """The way to each part of nested tuples, the whole (the empty way) first."""
    found = [()]
    if isinstance(thing, tuple):
        for place, part in enumerate(thing):
            found.extend([(place,) + rest for rest in paths(part)])
    return found


def part_at(thing, path):
    for place in path:
        thing = thing[place]
    return thing


def put_at(thing, path, new):
    """The nested tuples with another part at the end of this way."""
    if not path:
        return new
    place = path[0]
    return thing[:place] + (put_at(thing[place], path[1:], new),) + thing[place + 1:]


def is_plain(thing):
    """Whether it is made of Python's own tuples, ints, texts, truths and None only."""
    if type(thing) is tuple:
        return all(is_plain(part) for part in thing)
    return thing is None or type(thing) in (int, str, bool)
