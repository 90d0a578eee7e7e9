import copy
import fractions
import inspect

from tests.cases import WorthCase
from tests.samples import (
    BIT, FULL_PICK, KINDS, OF_500, OF_501, PAIR, changed_at_each_place, changed_lists, deep_things, drawn_kinds,
    leaves, listed, nested, no_kinds, numbers, shown, small_kinds, wrong_things,
)
from worthkinds.counting import all_worths, how_many
from worthkinds.errors import NoKind, NoWorth
from worthkinds.kinds import is_kind, is_worth
from worthkinds.shapes import depth, mirrored, mirrored_worth, reach, words_in
from worthkinds.shares import mean, share_of

WIDEST = ("whole", -20, 20)
BELOW = ("whole", -9, -4)
ABOVE = ("whole", 3, 8)
HUGE = ("many", ("many", WIDEST, 0, 3), 0, 3)

# A kind, how deep it is, its words, its reach, and the kind the other way about.
WRITTEN = [
    (BIT, 1, [], (0, 1), ("whole", -1, 0)),
    (WIDEST, 1, [], (-20, 20), WIDEST),
    (("whole", 0, 0), 1, [], (0, 0), ("whole", 0, 0)),
    (("whole", -3, 5), 1, [], (-3, 5), ("whole", -5, 3)),
    (BELOW, 1, [], (-9, -4), ("whole", 4, 9)),
    (ABOVE, 1, [], (3, 8), ("whole", -8, -3)),
    (("whole", 20, 20), 1, [], (20, 20), ("whole", -20, -20)),
    (PAIR, 1, ["ab", "c"], (0, 0), ("pick", (("c", 20), ("ab", 3)))),
    (("pick", (("a", 1),)), 1, ["a"], (0, 0), ("pick", (("a", 1),))),
    (FULL_PICK, 1, ["a", "abc", "d", "z"], (0, 0), ("pick", (("z", 2), ("a", 7), ("abc", 20), ("d", 1)))),
    (("pick", (("b", 1), ("ab", 1), ("aab", 1), ("a", 1))), 1, ["a", "aab", "ab", "b"], (0, 0),
     ("pick", (("a", 1), ("aab", 1), ("ab", 1), ("b", 1)))),
    (("row", (BIT,)), 2, [], (0, 1), ("row", (("whole", -1, 0),))),
    (("row", (BELOW, PAIR, ABOVE)), 2, ["ab", "c"], (-6, 4),
     ("row", (("whole", -8, -3), ("pick", (("c", 20), ("ab", 3))), ("whole", 4, 9)))),
    (("row", (PAIR, PAIR)), 2, ["ab", "c"], (0, 0), ("row", (("pick", (("c", 20), ("ab", 3))),) * 2)),
    (("row", (FULL_PICK, PAIR, ("pick", (("b", 1), ("a", 2))))), 2, ["a", "ab", "abc", "b", "c", "d", "z"], (0, 0),
     ("row", (("pick", (("a", 2), ("b", 1))), ("pick", (("c", 20), ("ab", 3))),
              ("pick", (("z", 2), ("a", 7), ("abc", 20), ("d", 1)))))),
    (("many", BIT, 0, 0), 2, [], (0, 0), ("many", ("whole", -1, 0), 0, 0)),
    (("many", PAIR, 0, 0), 2, ["ab", "c"], (0, 0), ("many", ("pick", (("c", 20), ("ab", 3))), 0, 0)),
    (("many", ABOVE, 0, 3), 2, [], (0, 24), ("many", ("whole", -8, -3), 0, 3)),
    (("many", ABOVE, 2, 3), 2, [], (6, 24), ("many", ("whole", -8, -3), 2, 3)),
    (("many", BELOW, 0, 3), 2, [], (-27, 0), ("many", ("whole", 4, 9), 0, 3)),
    (("many", BELOW, 1, 3), 2, [], (-27, -4), ("many", ("whole", 4, 9), 1, 3)),
    (("many", WIDEST, 1, 2), 2, [], (-40, 40), ("many", WIDEST, 1, 2)),
    (("many", BELOW, 2, 2), 2, [], (-18, -8), ("many", ("whole", 4, 9), 2, 2)),
    (HUGE, 3, [], (-180, 180), HUGE),
    (("many", ("many", ABOVE, 1, 2), 2, 3), 3, [], (6, 48), ("many", ("many", ("whole", -8, -3), 1, 2), 2, 3)),
    (("row", (BIT, ("row", (PAIR, ABOVE)))), 3, ["ab", "c"], (3, 9),
     ("row", (("row", (("whole", -8, -3), ("pick", (("c", 20), ("ab", 3))))), ("whole", -1, 0)))),
    (("row", (BIT, ("many", BELOW, 0, 1), ("pick", (("q", 5),)))), 3, ["q"], (-9, 1),
     ("row", (("pick", (("q", 5),)), ("many", ("whole", 4, 9), 0, 1), ("whole", -1, 0)))),
    (("many", ("row", (BELOW, PAIR)), 0, 2), 3, ["ab", "c"], (-18, 0),
     ("many", ("row", (("pick", (("c", 20), ("ab", 3))), ("whole", 4, 9))), 0, 2)),
]

# A kind, a worth, and the worth the other way about.
WRITTEN_WORTHS = [
    (WIDEST, 0, 0),
    (WIDEST, 20, -20),
    (WIDEST, -7, 7),
    (PAIR, "ab", "ab"),
    (PAIR, "c", "c"),
    (("row", (BIT,)), (1,), (-1,)),
    (("row", (BELOW, PAIR, ABOVE)), (-9, "ab", 3), (-3, "ab", 9)),
    (("many", BIT, 0, 3), (), ()),
    (("many", BIT, 0, 3), (1, 0, 0), (0, 0, -1)),
    (("many", PAIR, 0, 3), ("ab", "c"), ("c", "ab")),
    (("many", ("many", BIT, 0, 2), 0, 2), ((), (1, 0)), ((0, -1), ())),
    (("row", (BIT, ("row", (PAIR, ABOVE)))), (1, ("c", 4)), ((-4, "c"), -1)),
    (HUGE, ((1, 2, 3), (), (-4,)), ((4,), (), (-3, -2, -1))),
]


def plain_depth(kind):
    """Three, less as many rows as can stand around it."""
    rooms = [levels for levels in range(4) if is_kind(nested(kind, levels, lambda part: ("row", (part,))))]
    return 3 - max(rooms)


def plain_mirror(worth):
    if isinstance(worth, tuple):
        return tuple(map(plain_mirror, worth[::-1]))
    return worth if isinstance(worth, str) else 0 - worth


def share_sum(kind, worths):
    return sum(fractions.Fraction(*share_of(kind, worth)) for worth in worths)


class MadeTest(WorthCase):
    def test_interface(self):
        for function in (depth, words_in, reach, mirrored):
            self.assertEqual(len(inspect.signature(function).parameters), 1)
        self.assertEqual(len(inspect.signature(mirrored_worth).parameters), 2)

    def test_written(self):
        for kind, deep, words, reaches, _ in WRITTEN:
            with self.subTest(kind=kind):
                self.assert_same(depth(kind), deep)
                self.assert_same(words_in(kind), words)
                self.assert_same(reach(kind), reaches)

    def test_depth(self):
        for kind in KINDS + drawn_kinds(400):
            with self.subTest(kind=kind):
                self.assert_same(depth(kind), plain_depth(kind))

    def test_words(self):
        for kind in small_kinds():
            with self.subTest(kind=kind):
                words = {leaf for worth in listed(kind) for leaf in leaves(worth) if isinstance(leaf, str)}
                told = words_in(kind)
                self.assertIsInstance(told, list)
                self.assertEqual(told, sorted(set(told)))
                self.assertLessEqual(words, set(told))
                if all(part != 0 for part in leaves(kind)):
                    self.assertEqual(words, set(told))

    def test_reach(self):
        for kind in small_kinds() + [OF_500, OF_501]:
            with self.subTest(kind=kind):
                sums = [sum(numbers(worth)) for worth in listed(kind)]
                self.assert_same(reach(kind), (min(sums), max(sums)))

    def test_a_new_list_each_time(self):
        words_in(PAIR).append("x")
        self.assert_same(words_in(PAIR), ["ab", "c"])

    def test_no_kind(self):
        for function in (depth, words_in, reach, mirrored):
            for thing in no_kinds():
                self.assert_refused(NoKind, function, thing)


class MirroredTest(WorthCase):
    def test_written(self):
        for kind, _, _, _, other in WRITTEN:
            with self.subTest(kind=kind):
                self.assert_same(mirrored(kind), other)
                self.assert_same(mirrored(other), kind)

    def test_written_worths(self):
        for kind, worth, other in WRITTEN_WORTHS:
            with self.subTest(kind=kind, worth=worth):
                self.assert_same(mirrored_worth(kind, worth), other)
                self.assert_same(mirrored_worth(mirrored(kind), other), worth)

    def test_as_many_worths_of_the_same_shares(self):
        for kind in small_kinds() + [OF_500]:
            other = mirrored(kind)
            worths = listed(kind)
            turned = [mirrored_worth(kind, worth) for worth in worths]
            with self.subTest(kind=kind):
                self.assertTrue(is_kind(other))
                self.assert_same(turned, [plain_mirror(worth) for worth in worths])
                self.assert_same(sorted(turned, key=listed(other).index), all_worths(other))
                self.assert_same([share_of(other, worth) for worth in turned],
                                 [share_of(kind, worth) for worth in worths])
                self.assertEqual(share_sum(other, turned), 1)
                self.assert_same(mean(other), (-mean(kind)[0], mean(kind)[1]))

    def test_twice_is_as_it_was(self):
        for kind in KINDS + drawn_kinds(400) + [HUGE]:
            with self.subTest(kind=kind):
                self.assert_same(mirrored(mirrored(kind)), kind)
                self.assert_same(how_many(mirrored(kind)), how_many(kind))
                self.assert_same(depth(mirrored(kind)), depth(kind))
                self.assert_same(words_in(mirrored(kind)), words_in(kind))
                low, high = reach(kind)
                self.assert_same(reach(mirrored(kind)), (-high, -low))

    def test_worths_of_that_kind(self):
        for kind in small_kinds()[::2]:
            for worth in listed(kind):
                self.assertTrue(is_worth(mirrored(kind), mirrored_worth(kind, worth)))

    def test_any_thing_as_a_worth(self):
        for kind in KINDS:
            worth = listed(kind)[-1]
            for thing in changed_at_each_place(worth, lambda part: wrong_things()) + changed_lists(worth):
                self.assert_refused(NoWorth, mirrored_worth, kind, thing)

    def test_no_kind_comes_ahead_of_no_worth(self):
        for thing in no_kinds():
            for worth in (0, "a", (), (0, 0), None, True, [0], deep_things()[0]):
                self.assert_refused(NoKind, mirrored_worth, thing, worth)


class HandedInTest(WorthCase):
    def test_what_is_handed_in_stays(self):
        for thing in deep_things() + [[0, 1]]:
            before = copy.deepcopy(thing)
            with self.subTest(thing=shown(thing)):
                for function in (depth, words_in, reach, mirrored):
                    self.assertRaises(NoKind, function, thing)
                self.assertRaises(NoWorth, mirrored_worth, BIT, thing)
                self.assertRaises(NoKind, mirrored_worth, thing, thing)
                self.assertEqual(thing, before)
