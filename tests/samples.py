"""Kinds, rules and things that several tests hand in, and plain listings of worths to compare with."""

import itertools
import random

from worthkinds.counting import how_many

BIT = ("whole", 0, 1)
PAIR = ("pick", (("ab", 3), ("c", 20)))
FULL_PICK = ("pick", (("d", 1), ("abc", 20), ("a", 7), ("z", 2)))

KINDS = [
    BIT,
    ("whole", -20, 20),
    ("whole", -20, -20),
    ("whole", 20, 20),
    ("whole", -3, 5),
    ("pick", (("a", 1),)),
    ("pick", (("xyz", 20),)),
    PAIR,
    FULL_PICK,
    ("row", (BIT,)),
    ("row", (("whole", -1, 1), PAIR)),
    ("row", (PAIR, ("whole", -2, 2), FULL_PICK)),
    ("many", BIT, 0, 0),
    ("many", BIT, 0, 3),
    ("many", ("whole", -2, 2), 1, 2),
    ("many", PAIR, 3, 3),
    ("row", (("many", BIT, 0, 2), ("row", (PAIR, BIT)))),
    ("row", (("many", PAIR, 1, 2), ("many", BIT, 0, 0), ("row", (FULL_PICK,)))),
    ("many", ("row", (BIT, PAIR)), 0, 3),
    ("many", ("many", BIT, 0, 1), 0, 3),
    ("many", ("many", PAIR, 1, 2), 1, 2),
    ("row", (("row", (BIT, BIT, BIT)), PAIR)),
]

# 20 * 5 * 5 worths, and the same with one more: the empty tuple.
OF_500 = ("row", (("whole", 1, 20), ("whole", -2, 2), ("whole", 0, 4)))
OF_501 = ("many", OF_500, 0, 1)

RISING = ("rising",)
UNLIKE = ("unlike",)

RULES = [
    ("sum", -50, 50),
    ("sum", 0, 0),
    ("sum", 1, 3),
    ("sum", -50, -1),
    ("sum", 2, 1),
    ("sum", 50, -50),
    ("size", 1, 1),
    ("size", 0, 2),
    ("size", 2, 3),
    ("size", -50, 0),
    ("size", 3, 2),
    ("word", "ab"),
    ("word", "c"),
    ("word", "zzz"),
    RISING,
    UNLIKE,
    ("no", RISING),
    ("no", ("size", 0, 1)),
    ("no", ("no", UNLIKE)),
    ("all", RISING, UNLIKE),
    ("all", ("word", "ab"), ("no", ("word", "c"))),
    ("all", ("sum", 0, 1), ("some", UNLIKE, ("size", 2, 2))),
    ("some", ("sum", 1, 50), ("word", "c")),
    ("some", ("no", UNLIKE), ("all", RISING, ("size", 1, 2))),
    ("some", ("sum", 5, 4), ("size", 5, 4)),
]


def shown(thing):
    """What a failing test shows: Python refuses to write some of the numbers handed in."""
    try:
        return repr(thing)[:300]
    except ValueError:
        return "a thing with a very long number"


def nested(leaf, depth, wrap):
    thing = leaf
    for _ in range(depth):
        thing = wrap(thing)
    return thing


def deep_things():
    """Things some ten deep, some of them looking like kinds at every level."""
    wraps = [
        lambda thing: (thing,),
        lambda thing: [thing],
        lambda thing: (thing, [thing, None], "a"),
        lambda thing: ("row", (thing,)),
        lambda thing: ("row", [thing, thing]),
        lambda thing: ("many", thing, 0, 3),
    ]
    return [nested(leaf, 10, wrap) for wrap in wraps for leaf in (1, True, None, "a", BIT)]


def wrong_things():
    """Things that are neither a kind, nor a worth of any kind, nor a part of either."""
    plain = [True, False, None, "", "A", "abcd", [], [0], ["ab"], 21, -21, 10 ** 5000, -(10 ** 5000)]
    return plain + deep_things()


def changed_at_each_place(thing, change):
    """All that come of changing one part of the thing, or the whole, where there is a change."""
    found = list(change(thing))
    if isinstance(thing, tuple):
        for place, part in enumerate(thing):
            for other in changed_at_each_place(part, change):
                found.append(thing[:place] + (other,) + thing[place + 1:])
    return found


def changed_lists(thing):
    """All that come of making one tuple in the thing, or the whole, a list."""
    return changed_at_each_place(thing, lambda part: [list(part)] if isinstance(part, tuple) else [])


def changed_signs(text, signs):
    """All that come of a sign left out, put in, or put in the place of another one, and of two signs exchanged."""
    found = []
    for place in range(len(text) + 1):
        ahead, behind = text[:place], text[place:]
        found.extend(ahead + sign + behind for sign in signs)
        found.extend(ahead + sign + behind[1:] for sign in signs if behind)
        found.append(ahead + behind[1:])
        found.append(ahead + behind[1:2] + behind[:1] + behind[2:])
    return found


def no_kinds():
    return wrong_things() + [
        (), 0, "whole", ("whole", 1, 0), ("whole", -20, 21), ("whole", False, True), list(BIT), ("pick", ()),
        ("row", ()), ("row", (BIT,) * 4), ("row", (("whole", -20, 20),) * 4), ("many", BIT, 0, 4),
        ("many", BIT, -1, 3), ("pick", (("a", 1), ("a", 1))), ("whole", 0), ("whole", 0, 1, 2), ("many", BIT, 0),
        nested(BIT, 3, lambda thing: ("row", (thing,))), nested(PAIR, 3, lambda thing: ("many", thing, 0, 3)),
    ]


def deep_rules():
    """Things some ten deep that look like rules at every level."""
    wraps = [
        lambda thing: ("no", thing),
        lambda thing: ("all", thing, thing),
        lambda thing: ("some", RISING, thing),
        lambda thing: ["no", thing],
    ]
    return [nested(leaf, 10, wrap) for wrap in wraps for leaf in (RISING, True, None, "a", 1)]


def no_rules():
    """Things that are no rule, nor a part of one."""
    plain = [thing for thing in wrong_things() if thing not in (21, -21)]
    return plain + deep_rules() + [
        51, -51, (), ("sum",), ("sum", 0), ("sum", 0, 1, 2), ("sum", 0, 51), ("sum", -51, 0), ("sum", False, True),
        ("size", 0, None), ["rising"], ("rising", 0), ("unlike", ()), ("word", "abcd"), ("no",), ("no", "rising"),
        ("all", RISING), ("some", RISING, UNLIKE, RISING), nested(RISING, 3, lambda thing: ("no", thing)), BIT,
    ]


def small_kinds():
    """Kinds of all four sorts, each of at most 130 worths."""
    return KINDS + [kind for kind in drawn_kinds(400) if how_many(kind) <= 130]


def listed(kind):
    """All worths of the kind by their numbers, straight from the document's order."""
    if kind[0] == "whole":
        return list(range(kind[1], kind[2] + 1))
    if kind[0] == "pick":
        return [word for word, _ in kind[1]]
    if kind[0] == "row":
        return list(itertools.product(*[listed(part) for part in kind[1]]))
    found = []
    for length in range(kind[2], kind[3] + 1):
        found.extend(itertools.product(listed(kind[1]), repeat=length))
    return found


def some_kind(source, depth):
    sort = source.choice(["whole", "pick"] if depth == 1 else ["whole", "pick", "row", "many"])
    if sort == "whole":
        low = source.randint(-20, 20)
        return ("whole", low, min(20, low + source.randint(0, 3)))
    if sort == "pick":
        words = source.sample(["a", "b", "ab", "ba", "abc", "zzz"], source.randint(1, 4))
        return ("pick", tuple((word, source.randint(1, 20)) for word in words))
    if sort == "row":
        return ("row", tuple(some_kind(source, depth - 1) for _ in range(source.randint(1, 3))))
    low = source.randint(0, 3)
    return ("many", some_kind(source, depth - 1), low, source.randint(low, 3))


def drawn_kinds(count):
    """The same kinds at each run: the source starts from a written seed."""
    source = random.Random(20)
    return [some_kind(source, 3) for _ in range(count)]


def some_rule(source, depth):
    sort = source.choice(["sum", "size", "word", "rising", "unlike"] + ["no", "all", "some"] * (2 if depth > 1 else 0))
    if sort == "sum":
        return ("sum", source.randint(-9, 5), source.randint(-5, 9))
    if sort == "size":
        return ("size", source.randint(-1, 3), source.randint(0, 4))
    if sort == "word":
        return ("word", source.choice(["a", "b", "ab", "ba", "abc", "zzz", "c"]))
    if sort in ("rising", "unlike"):
        return (sort,)
    return (sort,) + tuple(some_rule(source, depth - 1) for _ in range(1 if sort == "no" else 2))


def drawn_rules(count):
    source = random.Random(21)
    return [some_rule(source, 3) for _ in range(count)]


def leaves(worth):
    if isinstance(worth, tuple):
        return [leaf for part in worth for leaf in leaves(part)]
    return [worth]


def numbers(worth):
    return [leaf for leaf in leaves(worth) if isinstance(leaf, int)]


def plainly_keeps(rule, worth):
    """Whether the worth keeps the rule, straight from the document's words."""
    sort = rule[0]
    if sort == "sum":
        return sum(numbers(worth)) in range(rule[1], rule[2] + 1)
    if sort == "size":
        return (len(worth) if isinstance(worth, tuple) else 1) in range(rule[1], rule[2] + 1)
    if sort == "word":
        return leaves(worth).count(rule[1]) > 0
    if sort == "rising":
        return numbers(worth) == sorted(numbers(worth))
    if sort == "unlike":
        return not isinstance(worth, tuple) or len(set(worth)) == len(worth)
    kept = [plainly_keeps(part, worth) for part in rule[1:]]
    return {"no": not kept[0], "all": all(kept), "some": any(kept)}[sort]
