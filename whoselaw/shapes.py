"""What is asked of a thing of any kind before its parts are looked at."""


def is_number(thing, low, high):
    """Whether thing is an int from low to high; True and False are none."""
    if isinstance(thing, bool) or not isinstance(thing, int):
        return False
    return low <= thing <= high


def is_none_or_number(thing, low, high):
    return thing is None or is_number(thing, low, high)


def is_tuple(thing, fewest, most):
    """Whether thing is a tuple of fewest to most parts, whatever these are."""
    return isinstance(thing, tuple) and fewest <= len(thing) <= most


def rises(keys):
    """Whether each key is less than the one behind it (so none is there twice)."""
    return all([low < high for low, high in zip(keys, keys[1:])])


def same(told, thing):
    """Whether thing is what the program told, to the last part.

    Python's own == takes True for 1 and False for 0, so it is asked only of
    parts that are both truths or both none. The depth is that of told,
    whatever thing is.
    """
    if isinstance(told, tuple):
        if not is_tuple(thing, len(told), len(told)):
            return False
        return all([same(part, other) for part, other in zip(told, thing)])
    return isinstance(told, bool) == isinstance(thing, bool) and told == thing
