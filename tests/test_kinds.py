import copy
import inspect
import unittest

from tests.samples import (
    BIT, FULL_PICK, KINDS, OF_500, OF_501, PAIR,
    changed_at_each_place, deep_things, drawn_kinds, listed, nested, shown, wrong_things,
)
from worthkinds.errors import NoKind
from worthkinds.kinds import is_kind, is_worth


def pick_of(*words):
    return ("pick", tuple((word, 1) for word in words))


def in_row(thing):
    return ("row", (thing,))


def in_many(thing):
    return ("many", thing, 0, 1)


class IsKindTest(unittest.TestCase):
    def check(self, expected, things):
        for thing in things:
            with self.subTest(thing=shown(thing)):
                self.assertIs(is_kind(thing), expected)

    def test_interface(self):
        self.assertEqual(len(inspect.signature(is_kind).parameters), 1)
        self.assertEqual(len(inspect.signature(is_worth).parameters), 2)

    def test_ordinary_kinds(self):
        self.check(True, KINDS + [OF_500, OF_501] + drawn_kinds(300))

    def test_bounds_of_whole(self):
        self.check(True, [
            ("whole", -20, 20), ("whole", -20, -20), ("whole", 20, 20), ("whole", 0, 0), ("whole", 4, 5),
        ])
        self.check(False, [
            ("whole", -21, 20), ("whole", -20, 21), ("whole", -21, -21), ("whole", 21, 21),
            ("whole", 1, 0), ("whole", 20, -20), ("whole", -19, -20), ("whole", 20, 19),
            ("whole", 0, 10 ** 5000), ("whole", -(10 ** 5000), 0),
        ])

    def test_form_of_whole(self):
        self.check(False, [
            ("whole",), ("whole", 0), ("whole", 0, 1, 2), ("whole", (0, 1)), ["whole", 0, 1],
            ("whole", "0", "1"), ("whole", None, 1), ("whole", 0, None), ("whole", [0], [1]),
            ("whole", (0,), (1,)), ("Whole", 0, 1), ("whole ", 0, 1), ("w", 0, 1), ("", 0, 1),
            (0, 1), (0, 0, 1), (None, 0, 1), (["whole"], 0, 1), (("whole",), 0, 1),
        ])

    def test_truths_are_no_whole_numbers(self):
        self.check(False, [
            ("whole", False, True), ("whole", 0, True), ("whole", False, 1), ("whole", True, True),
            ("whole", True, 20), ("whole", -20, False),
            ("pick", (("a", True),)), ("pick", (("a", 1), ("b", True))),
            ("many", BIT, False, True), ("many", BIT, 0, True), ("many", BIT, False, 1), ("many", BIT, True, 3),
            ("row", (("whole", 0, True),)), ("many", ("whole", False, 1), 0, 1),
        ])

    def test_how_many_choices(self):
        self.check(True, [pick_of("a"), pick_of("a", "b"), pick_of("a", "b", "c"), pick_of("d", "c", "b", "a")])
        self.check(False, [("pick", ()), pick_of("a", "b", "c", "d", "e")])

    def test_words(self):
        self.check(True, [
            pick_of("a"), pick_of("z"), pick_of("az"), pick_of("abc"), pick_of("zzz"), pick_of("aaa"),
            pick_of("a", "aa", "aaa"), pick_of("ab", "ba"),
        ])
        self.check(False, [
            pick_of(""), pick_of("abcd"), pick_of("aaaaa"), pick_of("A"), pick_of("aB"), pick_of("abC"),
            pick_of("1"), pick_of("a1"), pick_of("a b"), pick_of(" a"), pick_of("a "), pick_of("-"), pick_of("a-"),
            pick_of("_"), pick_of("`"), pick_of("{"), pick_of("a{"), pick_of("`a"), pick_of("a\n"), pick_of("\n"),
            pick_of("\u00e4"), pick_of("a\u00e4"), pick_of("\u00df"), pick_of("\u03b1"), pick_of("\uff41"),
            pick_of("\u0430"), pick_of("a\x00"), pick_of("ab", "abcd"), pick_of("abcd", "ab"),
            pick_of(1), pick_of(None), pick_of(True), pick_of(("a",)), pick_of(["a"]), pick_of(["a"], "b"),
        ])

    def test_words_are_unlike(self):
        self.check(False, [
            pick_of("a", "a"), pick_of("ab", "c", "ab"), pick_of("a", "b", "c", "a"), pick_of("a", "b", "b", "c"),
            ("pick", (("a", 1), ("a", 2))),
        ])

    def test_weights(self):
        self.check(True, [("pick", (("a", weight),)) for weight in (1, 2, 19, 20)])
        self.check(True, [("pick", (("a", 5), ("b", 5)))])
        self.check(False, [
            ("pick", (("a", weight),))
            for weight in (0, 21, -1, -20, 10 ** 5000, None, "1", "", (1,), [1])
        ])
        self.check(False, [("pick", (("a", 1), ("b", 0))), ("pick", (("a", 21), ("b", 1)))])

    def test_form_of_pick(self):
        self.check(False, [
            ("pick",), ("pick", (("a", 1),), 1), ("pick", ("a", 1)), ("pick", "a"), ("pick", ("a",)),
            ("pick", [("a", 1)]), ("pick", (["a", 1],)), ["pick", (("a", 1),)], ("pick", (("a",),)),
            ("pick", (("a", 1, 1),)), ("pick", ((1, "a"),)), ("pick", ((),)), ("pick", None), ("pick", 1),
            ("pick", (("a", 1), None)), ("pick", ("ab", "cd")), ("pick", {"a": 1}), ("pick", (("a", 1),), ()),
        ])

    def test_how_many_kinds_in_a_row(self):
        self.check(True, [("row", (BIT,)), ("row", (BIT, PAIR)), ("row", (BIT, BIT, BIT))])
        self.check(False, [("row", ()), ("row", (BIT,) * 4), ("row", (BIT,) * 5)])

    def test_form_of_row(self):
        self.check(False, [
            ("row",), ("row", BIT), ("row", BIT, BIT), ("row", [BIT]), ["row", (BIT,)], ("row", (BIT,), 1),
            ("row", None), ("row", "row"), ("row", (BIT, None)), ("row", (None, BIT)), ("row", (BIT, [BIT])),
            ("row", (list(BIT),)), ("row", (BIT, ("whole", 1, 0))), ("row", (BIT, (), BIT)), ("row", 1),
            ("row", (BIT, PAIR, ("pick", ()))), ("row", ("row", (BIT,))),
        ])

    def test_bounds_of_many(self):
        spans = [(low, high) for low in range(-2, 6) for high in range(-2, 6)]
        for low, high in spans:
            self.check(0 <= low <= high <= 3, [("many", BIT, low, high), ("many", PAIR, low, high)])
        self.check(False, [("many", BIT, 0, 10 ** 5000)])

    def test_form_of_many(self):
        self.check(False, [
            ("many",), ("many", BIT), ("many", BIT, 1), ("many", BIT, 0, 1, 2), ("many", 0, 1, BIT),
            ("many", 0, 1), ("many", (BIT,), 0, 1), ("many", [BIT], 0, 1), ("many", list(BIT), 0, 1),
            ["many", BIT, 0, 1], ("many", None, 0, 1), ("many", "a", 0, 1), ("many", 1, 0, 1), ("many", (), 0, 1),
            ("many", BIT, None, 1), ("many", BIT, 0, None), ("many", BIT, "0", "1"), ("many", BIT, (0,), (1,)),
            ("many", ("whole", 1, 0), 0, 1), ("many", BIT, PAIR, 0, 1), ("many", ("whole", 1, 0), 0, 0),
        ])

    def test_depth(self):
        for leaf in (BIT, PAIR, FULL_PICK):
            for first in (in_row, in_many):
                for second in (in_row, in_many):
                    deep = second(first(leaf))
                    self.check(True, [leaf, first(leaf), deep, ("row", (BIT, first(leaf), PAIR))])
                    self.check(False, [
                        in_row(deep), in_many(deep), ("row", (BIT, deep)), ("row", (BIT, PAIR, deep)),
                        ("many", deep, 0, 0), in_row(in_row(deep)), in_many(in_many(deep)),
                    ])

    def test_any_thing(self):
        self.check(False, wrong_things())
        self.check(False, [
            (), 0, 1, -1, "whole", "pick", "row", "many", "a", ("a",), (1,), (None,), ((),), [()], ([],), [[]],
            (True, False), [BIT], (BIT,), (BIT, BIT), list(BIT), list(PAIR), [None, [1, ("a", [True])]],
            (("whole", 0, 1),), "whole 0 1", ("whole 0 1",), "0..1",
        ])

    def test_wrong_thing_at_any_place(self):
        junk = wrong_things() + [()]
        for kind in KINDS:
            self.check(False, changed_at_each_place(kind, lambda part: junk))

    def test_list_in_place_of_any_tuple(self):
        for kind in KINDS + [OF_501]:
            self.check(False, changed_at_each_place(
                kind, lambda part: [list(part)] if isinstance(part, tuple) else []))

    def test_one_part_more_in_any_tuple(self):
        for kind in KINDS:
            self.check(False, changed_at_each_place(
                kind, lambda part: [part + (None,), (None,) + part] if isinstance(part, tuple) else []))

    def test_what_is_handed_in_stays(self):
        for thing in deep_things() + [[list(BIT), PAIR], ["pick", [["a", 1]]]]:
            before = copy.deepcopy(thing)
            is_kind(thing)
            self.assertEqual(thing, before)


class IsWorthTest(unittest.TestCase):
    def check(self, expected, kind, things):
        for thing in things:
            with self.subTest(kind=kind, thing=shown(thing)):
                self.assertIs(is_worth(kind, thing), expected)

    def test_whole(self):
        self.check(True, ("whole", -3, 5), [-3, -2, 0, 1, 4, 5])
        self.check(False, ("whole", -3, 5), [-4, 6, 100, -100, True, False, None, "0", "", (0,), [0], ()])
        self.check(True, ("whole", 7, 7), [7])
        self.check(False, ("whole", 7, 7), [6, 8, -7, 0])
        self.check(False, BIT, [True, False, -1, 2])

    def test_pick(self):
        self.check(True, PAIR, ["ab", "c"])
        self.check(False, PAIR, [
            "", "a", "b", "abc", "ac", "ab ", "AB", ("ab", 3), ("ab",), ["ab"], ("ab", "c"), 0, 1, 3, None, True,
        ])
        self.check(True, FULL_PICK, ["d", "abc", "a", "z"])
        self.check(False, FULL_PICK, ["ab", "bc", "b", "c", "da"])

    def test_row(self):
        kind = ("row", (("whole", -1, 1), PAIR))
        self.check(True, kind, [(-1, "ab"), (0, "c"), (1, "ab")])
        self.check(False, kind, [
            ("ab", -1), (-1,), ("ab",), (), (-1, "ab", 0), (-1, "ab", "ab"), [-1, "ab"], (2, "ab"), (-2, "c"),
            (0, "a"), (True, "ab"), (False, "c"), ((0,), "ab"), (0, ("ab",)), (0, None), None, 0, "ab", ((0, "ab"),),
        ])
        self.check(True, ("row", (BIT,)), [(0,), (1,)])
        self.check(False, ("row", (BIT,)), [0, 1, (), (0, 0), (True,), (False,), [0], ((0,),), (2,)])
        self.check(False, ("row", (BIT, BIT, BIT)), [(0, 0), (0, 0, 0, 0), (0, 0, 2), (2, 0, 0), (0, 2, 0)])

    def test_many(self):
        self.check(True, ("many", BIT, 1, 2), [(0,), (1,), (0, 0), (1, 0)])
        self.check(False, ("many", BIT, 1, 2), [
            (), (0, 0, 0), 0, [0], [0, 1], (2,), (0, 2), (2, 0), (True,), (0, False), (None,), ("a",), "", None,
            ((0,),), ((0, 1),),
        ])
        self.check(True, ("many", BIT, 0, 0), [()])
        self.check(False, ("many", BIT, 0, 0), [(0,), ((),), [], None, "", 0])
        self.check(True, ("many", BIT, 0, 3), [(), (0,), (1, 1), (0, 1, 0)])
        self.check(False, ("many", BIT, 0, 3), [(0, 0, 0, 0), (0,) * 10, (0, 1, 2), (0, 2, 1), (2, 0, 1)])
        self.check(True, ("many", PAIR, 3, 3), [("ab", "ab", "ab"), ("c", "ab", "c")])
        self.check(False, ("many", PAIR, 3, 3), [(), ("ab",), ("ab", "c"), ("ab", "c", "ab", "c"), "abc"])

    def test_within_one_another(self):
        kind = ("many", ("many", BIT, 0, 1), 0, 2)
        self.check(True, kind, [(), ((),), ((0,),), ((), (1,)), ((1,), ())])
        self.check(False, kind, [(0,), ((), ()) + ((),), ((0, 1),), ((True,),), ([],), ([0],), (((),),), ((2,),)])
        kind = ("row", (("many", BIT, 0, 2), ("row", (PAIR, BIT))))
        self.check(True, kind, [((), ("ab", 0)), ((0, 1), ("c", 1))])
        self.check(False, kind, [((), ("ab", True)), ((False,), ("c", 1)), ((), (0, "ab")), (("ab", 0), ()), ((),)])

    def test_all_listed_worths(self):
        for kind in KINDS:
            self.check(True, kind, listed(kind))

    def test_worths_of_larger_kinds(self):
        self.check(True, OF_501, [(), ((1, -2, 0),), ((20, 2, 4),)])
        self.check(False, OF_501, [((0, 0, 0),), ((21, 0, 0),), ((1, 0, 0), (1, 0, 0)), (1, 0, 0)])

    def test_any_thing(self):
        for kind in KINDS:
            self.check(False, kind, wrong_things())

    def test_wrong_thing_at_any_place(self):
        junk = wrong_things()
        for kind in KINDS:
            for worth in listed(kind)[:3] + listed(kind)[-3:]:
                self.check(False, kind, changed_at_each_place(worth, lambda part: junk))

    def test_list_in_place_of_any_tuple(self):
        for kind in KINDS:
            for worth in listed(kind)[:3] + listed(kind)[-3:]:
                self.check(False, kind, changed_at_each_place(
                    worth, lambda part: [list(part)] if isinstance(part, tuple) else []))

    def test_worths_of_one_kind_in_another(self):
        for kind in KINDS:
            own = listed(kind)
            for other in KINDS:
                for worth in listed(other)[:10]:
                    self.check(worth in own, kind, [worth])

    def test_no_kind(self):
        no_kinds = wrong_things() + [(), 0, "whole", ("whole", 1, 0), list(BIT), ("row", (BIT,) * 4),
                                     nested(BIT, 3, in_row), nested(PAIR, 3, in_many), ("whole", False, True)]
        for thing in no_kinds:
            for worth in (0, "a", (), None, True, [1], deep_things()[0]):
                with self.subTest(thing=shown(thing), worth=worth):
                    with self.assertRaises(NoKind):
                        is_worth(thing, worth)

    def test_what_is_handed_in_stays(self):
        for thing in deep_things() + [[0, 1], [[0], ["ab", 0]]]:
            before = copy.deepcopy(thing)
            for kind in KINDS:
                is_worth(kind, thing)
            self.assertEqual(thing, before)
