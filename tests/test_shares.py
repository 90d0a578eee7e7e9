import copy
import inspect
import math
from fractions import Fraction

from tests.cases import WorthCase
from tests.samples import (
    BIT, FULL_PICK, KINDS, OF_500, PAIR,
    changed_at_each_place, changed_lists, deep_things, listed, no_kinds, numbers, small_kinds, wrong_things,
)
from worthkinds.errors import NoKind, NoWorth
from worthkinds.shares import mean, share_of

EVEN = ("pick", (("a", 2), ("b", 4), ("c", 6)))

SHARES = [
    (BIT, 0, (1, 2)),
    (BIT, 1, (1, 2)),
    (("whole", -20, 20), -20, (1, 41)),
    (("whole", 7, 7), 7, (1, 1)),
    (("whole", -3, 5), 0, (1, 9)),
    (PAIR, "ab", (3, 23)),
    (PAIR, "c", (20, 23)),
    (("pick", (("xyz", 20),)), "xyz", (1, 1)),
    (EVEN, "a", (1, 6)),
    (EVEN, "b", (1, 3)),
    (EVEN, "c", (1, 2)),
    (FULL_PICK, "abc", (2, 3)),
    (FULL_PICK, "a", (7, 30)),
    (("row", (BIT,)), (1,), (1, 2)),
    (("row", (EVEN, ("whole", 1, 3))), ("c", 2), (1, 6)),
    (("row", (EVEN, EVEN, PAIR)), ("b", "c", "ab"), (1, 46)),
    (("many", BIT, 0, 0), (), (1, 1)),
    (("many", BIT, 0, 3), (), (1, 4)),
    (("many", BIT, 0, 3), (1,), (1, 8)),
    (("many", BIT, 0, 3), (0, 1, 1), (1, 32)),
    (("many", EVEN, 1, 2), ("c",), (1, 4)),
    (("many", EVEN, 1, 2), ("b", "a"), (1, 36)),
    (("many", EVEN, 2, 2), ("b", "a"), (1, 18)),
    (("many", ("many", BIT, 0, 1), 0, 2), ((), (1,)), (1, 24)),
    (("many", ("row", (FULL_PICK, BIT)), 1, 3), (("abc", 0),), (1, 9)),
    (("row", (("many", EVEN, 0, 1), ("row", (PAIR,)))), (("b",), ("c",)), (10, 69)),
]

MEANS = [
    (("whole", -3, 5), (1, 1)),
    (("whole", -2, 1), (-1, 2)),
    (("whole", -2, 2), (0, 1)),
    (("whole", -20, 20), (0, 1)),
    (("whole", -20, -20), (-20, 1)),
    (("whole", -20, -19), (-39, 2)),
    (("whole", 3, 6), (9, 2)),
    (BIT, (1, 2)),
    (PAIR, (0, 1)),
    (("row", (PAIR, FULL_PICK)), (0, 1)),
    (("row", (BIT, ("whole", 3, 4), PAIR)), (4, 1)),
    (("row", (BIT, ("whole", -1, 0))), (0, 1)),
    (("row", (("whole", -4, -1), ("whole", 1, 1))), (-3, 2)),
    (("many", ("whole", 5, 5), 0, 0), (0, 1)),
    (("many", BIT, 0, 1), (1, 4)),
    (("many", BIT, 0, 3), (3, 4)),
    (("many", ("whole", -3, -2), 0, 3), (-15, 4)),
    (("many", ("whole", -3, -2), 2, 2), (-5, 1)),
    (("many", ("many", ("whole", 1, 1), 0, 3), 0, 1), (3, 4)),
    (("many", ("row", (BIT, PAIR)), 0, 3), (3, 4)),
]


def plain_share(kind, worth):
    if kind[0] == "whole":
        return Fraction(1, len(range(kind[1], kind[2] + 1)))
    if kind[0] == "pick":
        return Fraction(dict(kind[1])[worth], sum(weight for _, weight in kind[1]))
    if kind[0] == "row":
        return math.prod([plain_share(part, each) for part, each in zip(kind[1], worth)])
    return Fraction(1, 1 + kind[3] - kind[2]) * math.prod([plain_share(kind[1], each) for each in worth])


def as_tuple(fraction):
    return (fraction.numerator, fraction.denominator)


class ShareOfTest(WorthCase):
    def test_interface(self):
        self.assertEqual(len(inspect.signature(share_of).parameters), 2)
        self.assertEqual(len(inspect.signature(mean).parameters), 1)

    def test_written(self):
        for kind, worth, share in SHARES:
            with self.subTest(kind=kind, worth=worth):
                self.assert_same(share_of(kind, worth), share)

    def test_as_the_document_tells(self):
        for kind in small_kinds():
            with self.subTest(kind=kind):
                for worth in listed(kind):
                    self.assert_same(share_of(kind, worth), as_tuple(plain_share(kind, worth)))

    def test_all_shares_together_are_the_whole(self):
        for kind in small_kinds() + [OF_500]:
            with self.subTest(kind=kind):
                shares = [share_of(kind, worth) for worth in listed(kind)]
                self.assertEqual(sum(Fraction(up, down) for up, down in shares), 1)

    def test_no_worth(self):
        cases = [
            (BIT, [True, False, 2, -1, "0", None, (0,), [0]]),
            (PAIR, ["", "a", "abc", ("ab", 3), 3, 20, None, ["ab"]]),
            (("row", (BIT, PAIR)), [(True, "ab"), (0,), (0, "ab", 0), [0, "ab"], ("ab", 0), (0, "a"), ()]),
            (("many", BIT, 1, 2), [(), (0, 0, 0), (False,), (0, True), [0], (2,), (0, 2), 0]),
            (("many", ("many", BIT, 0, 1), 0, 2), [((True,),), ([],), (0,), ((0, 0),), ((), (), ())]),
        ]
        for kind, things in cases:
            for thing in things:
                self.assert_refused(NoWorth, share_of, kind, thing)

    def test_any_thing_as_a_worth(self):
        for kind in KINDS:
            worth = listed(kind)[-1]
            for thing in changed_at_each_place(worth, lambda part: wrong_things()) + changed_lists(worth):
                self.assert_refused(NoWorth, share_of, kind, thing)

    def test_no_kind_comes_ahead_of_no_worth(self):
        for thing in no_kinds():
            for worth in (0, "a", (), (0, 0), None, True, [0], deep_things()[0]):
                self.assert_refused(NoKind, share_of, thing, worth)

    def test_what_is_handed_in_stays(self):
        for thing in deep_things() + [[0, 1], [[0], ["ab", 0]]]:
            before = copy.deepcopy(thing)
            self.assertRaises(NoWorth, share_of, BIT, thing)
            self.assertRaises(NoKind, share_of, [thing], thing)
            self.assertRaises(NoKind, mean, [thing])
            self.assertEqual(thing, before)


class MeanTest(WorthCase):
    def test_written(self):
        for kind, expected in MEANS:
            with self.subTest(kind=kind):
                self.assert_same(mean(kind), expected)

    def test_as_the_document_tells(self):
        for kind in small_kinds() + [kind for kind, _ in MEANS]:
            with self.subTest(kind=kind):
                parts = [plain_share(kind, worth) * sum(numbers(worth)) for worth in listed(kind)]
                self.assert_same(mean(kind), as_tuple(sum(parts, Fraction(0))))

    def test_no_kind(self):
        for thing in no_kinds():
            self.assert_refused(NoKind, mean, thing)
