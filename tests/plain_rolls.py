"""The document's points 19 and 20, told once more by their words and without the program."""


def plain_takes(lands, number, judgment):
    day, court = judgment[:2]
    takes = [take for take in lands[number][3] if take[0] == court and take[1] <= day]
    return court == number or bool(takes) and max(takes)[2] == 1


def plain_verdicts(lands, book, roll, number, thing, day):
    """The verdicts, and who holds the thing in the end: by going through all that happened, in its order."""
    happened = [(fact[2], 0, fact) for fact in book if fact[:2] == (thing, 3)]
    happened += [(judgment[0], 1, at) for at, judgment in enumerate(roll) if judgment[2] == thing]
    owner = None
    told = []
    for when, sort, what in sorted(happened, key=lambda each: (each[0], each[1])):
        if when > day:
            if sort == 1:
                told.append((what, "later", None))
        elif sort == 0:
            owner = what[3][1] if what[3][0] == "with" else None
        else:
            winner, loser = roll[what][3:]
            earlier = [at for at, word, _ in told if word == "binds" and set(roll[at][3:]) == {winner, loser}]
            if not plain_takes(lands, number, roll[what]):
                told.append((what, "strange", None))
            elif earlier:
                told.append((what, "settled", earlier[0]))
            elif owner not in (winner, loser):
                told.append((what, "no party", None))
            else:
                told.append((what, "binds", None))
                owner = winner
    return tuple(told), owner


def plain_parted(lands, book, roll, thing, day):
    holders = [plain_verdicts(lands, book, roll, number, thing, day)[1] for number in range(len(lands))]
    unlike = [
        (low, high) for low in range(len(lands)) for high in range(low + 1, len(lands)) if holders[low] != holders[high]
    ]
    return min(unlike, default=None)
