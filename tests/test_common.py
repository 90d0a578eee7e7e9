import copy
import inspect

from tests.cases import WorthCase
from tests.samples import (
    BIT, FULL_PICK, KINDS, OF_501, PAIR, changed_lists, deep_things, listed, no_kinds, small_kinds,
)
from worthkinds.common import are_apart, both, is_within
from worthkinds.counting import how_many
from worthkinds.errors import NoKind
from worthkinds.kinds import is_kind

LOW = ("whole", -3, -1)
HIGH = ("whole", 5, 7)


def picks(*words):
    return ("pick", tuple((word, 1) for word in words))


# Two kinds, and all the worths that both have.
WRITTEN = [
    (("whole", 0, 5), ("whole", 3, 9), [3, 4, 5]),
    (("whole", 0, 5), ("whole", 5, 9), [5]),
    (("whole", 0, 5), ("whole", 6, 9), []),
    (("whole", -20, 20), ("whole", -1, 1), [-1, 0, 1]),
    (("whole", -3, 2), ("whole", -3, 2), [-3, -2, -1, 0, 1, 2]),
    (("whole", 20, 20), ("whole", -20, 20), [20]),
    (PAIR, ("pick", (("ab", 20), ("c", 1))), ["ab", "c"]),
    (PAIR, ("pick", (("c", 20), ("ab", 3))), ["ab", "c"]),
    (PAIR, picks("c", "d"), ["c"]),
    (PAIR, picks("a", "b"), []),
    (picks("a", "b", "c", "d"), picks("d", "b"), ["b", "d"]),
    (BIT, PAIR, []),
    (BIT, ("row", (BIT,)), []),
    (BIT, ("many", BIT, 1, 1), []),
    (PAIR, ("row", (PAIR,)), []),
    (PAIR, ("many", PAIR, 0, 3), []),
    (("row", (BIT, PAIR)), ("row", (("whole", 1, 4), picks("c", "ab"))), [(1, "ab"), (1, "c")]),
    (("row", (BIT, PAIR)), ("row", (PAIR, BIT)), []),
    (("row", (BIT, BIT)), ("row", (BIT, BIT, BIT)), []),
    (("row", (BIT, BIT)), ("row", (BIT,)), []),
    (("row", (BIT, LOW)), ("row", (BIT, HIGH)), []),
    (("row", (LOW, BIT)), ("row", (HIGH, BIT)), []),
    (("row", (BIT, LOW, PAIR)), ("row", (("whole", 1, 1), ("whole", -1, 3), picks("c"))), [(1, -1, "c")]),
    (("many", BIT, 0, 1), ("many", BIT, 1, 3), [(0,), (1,)]),
    (("many", BIT, 0, 1), ("many", BIT, 2, 3), []),
    (("many", BIT, 2, 3), ("many", BIT, 0, 1), []),
    (("many", BIT, 0, 0), ("many", BIT, 0, 3), [()]),
    (("many", BIT, 0, 2), ("many", ("whole", 1, 2), 0, 3), [(), (1,), (1, 1)]),
    (("many", LOW, 0, 3), ("many", HIGH, 0, 2), [()]),
    (("many", BIT, 0, 3), ("many", PAIR, 0, 3), [()]),
    (("many", BIT, 0, 3), ("many", ("row", (BIT,)), 0, 0), [()]),
    (("many", LOW, 0, 3), ("many", HIGH, 1, 2), []),
    (("many", LOW, 1, 3), ("many", HIGH, 0, 2), []),
    (("many", LOW, 1, 1), ("many", HIGH, 1, 1), []),
    (("many", ("many", LOW, 0, 2), 0, 1), ("many", ("many", HIGH, 0, 2), 0, 3), [(), ((),)]),
    (("many", ("many", LOW, 0, 2), 1, 1), ("many", ("many", HIGH, 1, 2), 0, 3), []),
    (("row", (("many", LOW, 0, 2), BIT)), ("row", (("many", PAIR, 0, 1), BIT)), [((), 0), ((), 1)]),
    (("row", (BIT, BIT)), ("many", BIT, 0, 3), [(0, 0), (0, 1), (1, 0), (1, 1)]),
    (("row", (BIT, ("whole", 1, 5))), ("many", ("whole", 1, 2), 2, 2), [(1, 1), (1, 2)]),
    (("row", (BIT, PAIR)), ("many", BIT, 0, 3), []),
    (("row", (BIT, BIT)), ("many", BIT, 0, 1), []),
    (("row", (BIT, BIT)), ("many", BIT, 3, 3), []),
    (("row", (BIT,)), ("many", BIT, 0, 0), []),
    (("row", (("row", (BIT,)), ("many", BIT, 1, 2))), ("many", ("many", BIT, 0, 1), 0, 3),
     [((0,), (0,)), ((0,), (1,)), ((1,), (0,)), ((1,), (1,))]),
    (("row", (("many", BIT, 0, 1),)), ("many", ("many", PAIR, 0, 1), 0, 1), [((),)]),
]


def changed_kinds(kind):
    """Kinds that have much in common with this one: some within it, some around it, some beside it."""
    if kind[0] == "whole":
        spans = [(low, high) for low in (kind[1] - 1, kind[1] + 1) for high in (kind[2] - 1, kind[2] + 1)]
        return [changed for changed in [("whole", low, high) for low, high in spans] if is_kind(changed)]
    if kind[0] == "pick":
        turned = tuple((word, 21 - weight) for word, weight in reversed(kind[1]))
        return [("pick", turned), ("pick", kind[1][:1]), ("pick", (("new", 5),) + kind[1][-3:])]
    if kind[0] == "row":
        found = [("row", kind[1][::-1]), ("row", kind[1][:1]), ("many", kind[1][0], 0, 3)]
        for place, part in enumerate(kind[1]):
            found += [("row", kind[1][:place] + (changed,) + kind[1][place + 1:]) for changed in changed_kinds(part)]
        return found
    found = [("many", kind[1], 0, kind[2]), ("many", kind[1], kind[3], 3), ("many", ("whole", -9, -9), 0, 3)]
    found += [("row", (kind[1],) * length) for length in range(1, 4)]
    return found + [("many", changed, kind[2], kind[3]) for changed in changed_kinds(kind[1])]


def asked_pairs():
    kinds = [kind for kind in small_kinds() if how_many(kind) <= 60][:140]
    pairs = [(one, other) for one in kinds for other in kinds[::4]]
    for one in small_kinds():
        pairs += [(one, other) for other in changed_kinds(one) if how_many(other) <= 300]
    return pairs + [(one, other) for one, other, _ in WRITTEN]


class CommonCase(WorthCase):
    def check(self, one, other, expected):
        """The expected worths may stand in any order: that of words is not promised."""
        told = both(one, other)
        if not expected:
            self.assertIsNone(told)
            return
        self.assertIs(is_kind(told), True)
        self.assertEqual(sorted(map(repr, listed(told))), sorted(map(repr, expected)))


class BothTest(CommonCase):
    def test_interface(self):
        for function in (both, is_within, are_apart):
            self.assertEqual(len(inspect.signature(function).parameters), 2)

    def test_written(self):
        for one, other, expected in WRITTEN:
            with self.subTest(one=one, other=other):
                self.check(one, other, expected)
                self.check(other, one, expected)

    def test_a_kind_and_itself(self):
        for kind in small_kinds():
            with self.subTest(kind=kind):
                self.check(kind, kind, listed(kind))

    def test_just_what_both_have(self):
        for one, other in asked_pairs():
            with self.subTest(one=one, other=other):
                others = set(map(repr, listed(other)))
                self.check(one, other, [worth for worth in listed(one) if repr(worth) in others])

    def test_is_within_either(self):
        for one, other in asked_pairs():
            shared = both(one, other)
            if shared is not None:
                with self.subTest(one=one, other=other):
                    self.assertIs(is_within(shared, one), True)
                    self.assertIs(is_within(shared, other), True)
                    self.assertIs(are_apart(shared, one), False)

    def test_no_deeper_than_kinds_are(self):
        deepest = ("many", ("many", FULL_PICK, 0, 1), 0, 1)
        for other in (("many", ("many", BIT, 0, 1), 0, 1), ("many", BIT, 0, 1), ("many", ("row", (BIT,)), 0, 2)):
            self.assertIs(is_kind(both(deepest, other)), True)
            self.assertIs(is_kind(both(other, deepest)), True)


class WithinTest(CommonCase):
    def test_written(self):
        cases = [
            (("whole", 1, 3), ("whole", 0, 5), True, False),
            (("whole", 1, 3), ("whole", 1, 3), True, True),
            (("whole", 1, 6), ("whole", 0, 5), False, False),
            (PAIR, ("pick", (("c", 1), ("ab", 1))), True, True),
            (PAIR, picks("c", "x", "ab"), True, False),
            (("many", BIT, 1, 2), ("many", BIT, 0, 2), True, False),
            (("many", BIT, 0, 0), ("many", PAIR, 0, 0), True, True),
            (("many", BIT, 0, 0), ("many", PAIR, 0, 1), True, False),
            (("many", BIT, 0, 1), ("many", PAIR, 0, 1), False, False),
            (("row", (BIT, BIT)), ("many", BIT, 2, 2), True, True),
            (("row", (BIT, BIT)), ("many", BIT, 1, 2), True, False),
            (("row", (("whole", 1, 1), BIT)), ("row", (BIT, BIT)), True, False),
            (BIT, ("row", (BIT,)), False, False),
        ]
        for one, other, within, around in cases:
            with self.subTest(one=one, other=other):
                self.assertIs(is_within(one, other), within)
                self.assertIs(is_within(other, one), around)

    def test_as_listed(self):
        for one, other in asked_pairs():
            ones = set(map(repr, listed(one)))
            others = set(map(repr, listed(other)))
            with self.subTest(one=one, other=other):
                self.assertIs(is_within(one, other), ones <= others)
                self.assertIs(is_within(other, one), others <= ones)
                self.assertIs(are_apart(one, other), not ones & others)
                self.assertIs(are_apart(other, one), not ones & others)

    def test_apart(self):
        for one, other, expected in WRITTEN:
            with self.subTest(one=one, other=other):
                self.assertIs(are_apart(one, other), expected == [])


class RefusalsTest(CommonCase):
    def test_no_kind(self):
        for function in (both, is_within, are_apart):
            for thing in no_kinds():
                for kind in (BIT, PAIR, ("row", (BIT, PAIR)), ("many", BIT, 0, 1), OF_501):
                    self.assert_refused(NoKind, function, thing, kind)
                    self.assert_refused(NoKind, function, kind, thing)
                self.assert_refused(NoKind, function, thing, thing)

    def test_lists_in_place_of_tuples(self):
        for kind in KINDS:
            for thing in changed_lists(kind):
                for function in (both, is_within, are_apart):
                    self.assert_refused(NoKind, function, thing, kind)
                    self.assert_refused(NoKind, function, kind, thing)

    def test_what_is_handed_in_stays(self):
        for thing in deep_things():
            before = copy.deepcopy(thing)
            for function in (both, is_within, are_apart):
                self.assertRaises(NoKind, function, thing, thing)
            self.assertEqual(thing, before)
