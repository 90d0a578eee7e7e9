"""Kinds and things that several tests hand in, and a plain listing of worths to compare with."""

import itertools
import random

BIT = ("whole", 0, 1)
PAIR = ("pick", (("ab", 3), ("c", 20)))
FULL_PICK = ("pick", (("d", 1), ("abc", 20), ("a", 7), ("z", 2)))

KINDS = [
    BIT,
    ("whole", -20, 20),
    ("whole", -20, -20),
    ("whole", 20, 20),
    ("whole", -3, 5),
    ("pick", (("a", 1),)),
    ("pick", (("xyz", 20),)),
    PAIR,
    FULL_PICK,
    ("row", (BIT,)),
    ("row", (("whole", -1, 1), PAIR)),
    ("row", (PAIR, ("whole", -2, 2), FULL_PICK)),
    ("many", BIT, 0, 0),
    ("many", BIT, 0, 3),
    ("many", ("whole", -2, 2), 1, 2),
    ("many", PAIR, 3, 3),
    ("row", (("many", BIT, 0, 2), ("row", (PAIR, BIT)))),
    ("row", (("many", PAIR, 1, 2), ("many", BIT, 0, 0), ("row", (FULL_PICK,)))),
    ("many", ("row", (BIT, PAIR)), 0, 3),
    ("many", ("many", BIT, 0, 1), 0, 3),
    ("many", ("many", PAIR, 1, 2), 1, 2),
    ("row", (("row", (BIT, BIT, BIT)), PAIR)),
]

# 20 * 5 * 5 worths, and the same with one more: the empty tuple.
OF_500 = ("row", (("whole", 1, 20), ("whole", -2, 2), ("whole", 0, 4)))
OF_501 = ("many", OF_500, 0, 1)


def shown(thing):
    """What a failing test shows: Python refuses to write some of the numbers handed in."""
    try:
        return repr(thing)[:300]
    except ValueError:
        return "a thing with a very long number"


def nested(leaf, depth, wrap):
    thing = leaf
    for _ in range(depth):
        thing = wrap(thing)
    return thing


def deep_things():
    """Things some ten deep, some of them looking like kinds at every level."""
    wraps = [
        lambda thing: (thing,),
        lambda thing: [thing],
        lambda thing: (thing, [thing, None], "a"),
        lambda thing: ("row", (thing,)),
        lambda thing: ("row", [thing, thing]),
        lambda thing: ("many", thing, 0, 3),
    ]
    return [nested(leaf, 10, wrap) for wrap in wraps for leaf in (1, True, None, "a", BIT)]


def wrong_things():
    """Things that are neither a kind, nor a worth of any kind, nor a part of either."""
    plain = [True, False, None, "", "A", "abcd", [], [0], ["ab"], 21, -21, 10 ** 5000, -(10 ** 5000)]
    return plain + deep_things()


def changed_at_each_place(thing, change):
    """All that come of changing one part of the thing, or the whole, where there is a change."""
    found = list(change(thing))
    if isinstance(thing, tuple):
        for place, part in enumerate(thing):
            for other in changed_at_each_place(part, change):
                found.append(thing[:place] + (other,) + thing[place + 1:])
    return found


def listed(kind):
    """All worths of the kind by their numbers, straight from the document's order."""
    if kind[0] == "whole":
        return list(range(kind[1], kind[2] + 1))
    if kind[0] == "pick":
        return [word for word, _ in kind[1]]
    if kind[0] == "row":
        return list(itertools.product(*[listed(part) for part in kind[1]]))
    found = []
    for length in range(kind[2], kind[3] + 1):
        found.extend(itertools.product(listed(kind[1]), repeat=length))
    return found


def some_kind(source, depth):
    sort = source.choice(["whole", "pick"] if depth == 1 else ["whole", "pick", "row", "many"])
    if sort == "whole":
        low = source.randint(-20, 20)
        return ("whole", low, min(20, low + source.randint(0, 3)))
    if sort == "pick":
        words = source.sample(["a", "b", "ab", "ba", "abc", "zzz"], source.randint(1, 4))
        return ("pick", tuple((word, source.randint(1, 20)) for word in words))
    if sort == "row":
        return ("row", tuple(some_kind(source, depth - 1) for _ in range(source.randint(1, 3))))
    low = source.randint(0, 3)
    return ("many", some_kind(source, depth - 1), low, source.randint(low, 3))


def drawn_kinds(count):
    """The same kinds at each run: the source starts from a written seed."""
    source = random.Random(20)
    return [some_kind(source, 3) for _ in range(count)]
