import copy
import inspect

from tests.cases import WorthCase
from tests.samples import (
    BIT, FULL_PICK, KINDS, OF_500, OF_501, PAIR, RISING, RULES, UNLIKE,
    changed_at_each_place, changed_lists, deep_rules, deep_things, drawn_rules, listed, no_kinds, no_rules,
    plainly_keeps, small_kinds, wrong_things,
)
from worthkinds.errors import NoKind, NoRule, NoWorth, TooMany
from worthkinds.least import least_breaking, led_down, lesser, weight

BELOW = ("whole", -9, -4)
ABOVE = ("whole", 3, 8)
AROUND = ("whole", -3, 5)
NEVER = ("sum", 1, 0)
ALWAYS = ("no", NEVER)

# A kind, a worth, what is one step less, and what the worth weighs.
WRITTEN = [
    (AROUND, 5, [4], 5),
    (AROUND, 1, [0], 1),
    (AROUND, 0, [], 0),
    (AROUND, -1, [0], 1),
    (AROUND, -3, [-2], 3),
    (BELOW, -9, [-8], 5),
    (BELOW, -5, [-4], 1),
    (BELOW, -4, [], 0),
    (ABOVE, 8, [7], 5),
    (ABOVE, 4, [3], 1),
    (ABOVE, 3, [], 0),
    (("whole", -5, 0), -5, [-4], 5),
    (("whole", -5, 0), 0, [], 0),
    (("whole", 0, 5), 5, [4], 5),
    (("whole", 20, 20), 20, [], 0),
    (("whole", -20, -20), -20, [], 0),
    (PAIR, "ab", [], 0),
    (PAIR, "c", ["ab"], 1),
    (FULL_PICK, "z", ["a"], 3),
    (FULL_PICK, "a", ["abc"], 2),
    (FULL_PICK, "d", [], 0),
    (("row", (BIT,)), (1,), [(0,)], 1),
    (("row", (BIT,)), (0,), [], 0),
    (("row", (AROUND, PAIR, BELOW)), (-2, "c", -6), [(-1, "c", -6), (-2, "ab", -6), (-2, "c", -5)], 5),
    (("row", (AROUND, PAIR, BELOW)), (0, "c", -4), [(0, "ab", -4)], 1),
    (("row", (AROUND, PAIR, BELOW)), (0, "ab", -4), [], 0),
    (("many", BIT, 0, 0), (), [], 0),
    (("many", BIT, 0, 3), (), [], 0),
    (("many", BIT, 0, 3), (0,), [()], 1),
    (("many", BIT, 0, 3), (1,), [(), (0,)], 2),
    (("many", BIT, 0, 3), (0, 0), [(0,), (0,)], 2),
    (("many", BIT, 0, 3), (0, 1), [(1,), (0,), (0, 0)], 3),
    (("many", BIT, 0, 3), (1, 0), [(0,), (1,), (0, 0)], 3),
    (("many", BIT, 0, 3), (1, 0, 1), [(0, 1), (1, 1), (1, 0), (0, 0, 1), (1, 0, 0)], 5),
    (("many", BIT, 2, 3), (1, 0, 1), [(0, 1), (1, 1), (1, 0), (0, 0, 1), (1, 0, 0)], 3),
    (("many", BIT, 3, 3), (1, 0, 1), [(0, 0, 1), (1, 0, 0)], 2),
    (("many", BIT, 1, 2), (1,), [(0,)], 1),
    (("many", BIT, 1, 2), (0,), [], 0),
    (("many", BELOW, 1, 2), (-4, -5), [(-5,), (-4,), (-4, -4)], 2),
    (("many", FULL_PICK, 0, 2), ("a", "d"), [("d",), ("a",), ("abc", "d")], 4),
    (("many", ("many", BIT, 0, 2), 0, 2), ((1,), ()), [((),), ((1,),), ((), ()), ((0,), ())], 4),
    (("many", ("many", BIT, 0, 2), 0, 2), ((), ()), [((),), ((),)], 2),
    (("row", (("many", BIT, 0, 2), ("row", (PAIR, BIT)))), ((0, 0), ("c", 1)),
     [((0,), ("c", 1)), ((0,), ("c", 1)), ((0, 0), ("ab", 1)), ((0, 0), ("c", 0))], 4),
    (("many", ("row", (BIT, PAIR)), 1, 2), ((1, "c"), (0, "ab")),
     [((0, "ab"),), ((1, "c"),), ((0, "c"), (0, "ab")), ((1, "ab"), (0, "ab"))], 3),
]

WRONG_WORTHS = [
    (BIT, [True, False, 2, -1, "0", None, (0,), [0]]),
    (PAIR, ["", "a", "abc", ("ab", 3), 0, None, ["ab"]]),
    (("row", (BIT, PAIR)), [(True, "ab"), (0,), (0, "ab", 0), [0, "ab"], ("ab", 0), (0, "a"), ()]),
    (("many", BIT, 1, 2), [(), (0, 0, 0), (False,), (0, True), [0], (2,), (0, 2), 0]),
    (("many", ("many", BIT, 0, 1), 0, 2), [((True,),), ([],), (0,), ((0, 0),), ((), (), ())]),
]


def part_kinds(kind, worth):
    return kind[1] if kind[0] == "row" else (kind[1],) * len(worth)


def plain_weight(kind, worth):
    if kind[0] == "whole":
        return abs(worth - min(listed(kind), key=abs))
    if kind[0] == "pick":
        return listed(kind).index(worth)
    parts = sum(plain_weight(each, part) for each, part in zip(part_kinds(kind, worth), worth))
    return parts if kind[0] == "row" else parts + len(worth) - kind[2]


def plain_lesser(kind, worth):
    if kind[0] == "whole":
        return [near for near in (worth - 1, worth + 1)
                if near in listed(kind) and plain_weight(kind, near) < plain_weight(kind, worth)]
    if kind[0] == "pick":
        words = listed(kind)
        return [ahead for ahead, word in zip(words, words[1:]) if word == worth]
    found = []
    if kind[0] == "many" and len(worth) - 1 >= kind[2]:
        found = [tuple(part for place, part in enumerate(worth) if place != left_out) for left_out in range(len(worth))]
    for changed, each in enumerate(part_kinds(kind, worth)):
        for less in plain_lesser(each, worth[changed]):
            found.append(tuple(less if place == changed else part for place, part in enumerate(worth)))
    return found


class LesserTest(WorthCase):
    def test_interface(self):
        for function, arguments in ((lesser, 2), (weight, 2), (led_down, 3), (least_breaking, 2)):
            self.assertEqual(len(inspect.signature(function).parameters), arguments)

    def test_written(self):
        for kind, worth, less, weighs in WRITTEN:
            with self.subTest(kind=kind, worth=worth):
                self.assert_same(lesser(kind, worth), less)
                self.assert_same(weight(kind, worth), weighs)

    def test_as_the_document_tells(self):
        for kind in small_kinds():
            with self.subTest(kind=kind):
                for worth in listed(kind):
                    self.assertIsInstance(lesser(kind, worth), list)
                    self.assert_same(lesser(kind, worth), plain_lesser(kind, worth))
                    self.assert_same(weight(kind, worth), plain_weight(kind, worth))

    def test_steps_lead_from_everywhere_to_the_one_that_weighs_nothing(self):
        for kind in small_kinds():
            with self.subTest(kind=kind):
                worths = listed(kind)
                lightest = [worth for worth in worths if weight(kind, worth) == 0]
                self.assertEqual(len(lightest), 1)
                for worth in worths:
                    steps = lesser(kind, worth)
                    self.assertEqual(steps == [], worth == lightest[0])
                    for less in steps:
                        self.assertIn(less, worths)
                        self.assertLess(weight(kind, less), weight(kind, worth))

    def test_a_new_list_each_time(self):
        for kind, worth, less, _ in WRITTEN:
            lesser(kind, worth).append(worth)
            self.assert_same(lesser(kind, worth), less)

    def test_no_worth(self):
        for function in (lesser, weight):
            for kind, things in WRONG_WORTHS:
                for thing in things:
                    self.assert_refused(NoWorth, function, kind, thing)

    def test_any_thing_as_a_worth(self):
        for kind in KINDS:
            worth = listed(kind)[-1]
            for thing in changed_at_each_place(worth, lambda part: wrong_things()) + changed_lists(worth):
                self.assert_refused(NoWorth, lesser, kind, thing)
                self.assert_refused(NoWorth, weight, kind, thing)

    def test_no_kind_comes_ahead_of_no_worth(self):
        for function in (lesser, weight):
            for thing in no_kinds():
                for worth in (0, "a", (), (0, 0), None, True, [0], deep_things()[0]):
                    self.assert_refused(NoKind, function, thing, worth)


class LedDownTest(WorthCase):
    def test_written(self):
        cases = [
            (AROUND, 5, NEVER, [5, 4, 3, 2, 1, 0]),
            (AROUND, -3, NEVER, [-3, -2, -1, 0]),
            (AROUND, 5, ("sum", -3, 2), [5, 4, 3]),
            (AROUND, 5, ("sum", 4, 4), [5]),
            (AROUND, 0, NEVER, [0]),
            (BELOW, -7, NEVER, [-7, -6, -5, -4]),
            (FULL_PICK, "z", ("word", "d"), ["z", "a", "abc"]),
            (("many", BIT, 0, 3), (1, 0, 1), NEVER, [(1, 0, 1), (0, 1), (1,), ()]),
            (("many", BIT, 0, 3), (1, 0, 1), ("sum", 0, 1), [(1, 0, 1), (1, 1)]),
            (("many", BIT, 0, 3), (1, 0, 0), RISING, [(1, 0, 0), (1, 0)]),
            (("many", BIT, 0, 3), (0, 0, 1), UNLIKE, [(0, 0, 1), (0, 0)]),
            (("many", BIT, 0, 3), (0, 1, 1), ("size", 0, 2), [(0, 1, 1), (0, 0, 1), (0, 0, 0)]),
            (("many", AROUND, 0, 2), (2, -2), ("size", 0, 1), [
                (2, -2), (1, -2), (0, -2), (0, -1), (0, 0)]),
            (("row", (AROUND, PAIR)), (1, "c"), ("no", ("word", "c")), [(1, "c"), (0, "c")]),
        ]
        for kind, worth, rule, expected in cases:
            with self.subTest(kind=kind, worth=worth, rule=rule):
                self.assert_same(led_down(kind, worth, rule), expected)

    def test_as_the_document_tells(self):
        rules = RULES + drawn_rules(60)
        for place, kind in enumerate(small_kinds()):
            for rule in rules[place % 9::9]:
                breaking = [worth for worth in listed(kind) if not plainly_keeps(rule, worth)]
                for worth in breaking[-3:]:
                    expected = []
                    rest = [worth]
                    while rest:
                        expected.append(rest[0])
                        rest = [less for less in plain_lesser(kind, rest[0]) if not plainly_keeps(rule, less)]
                    with self.subTest(kind=kind, worth=worth, rule=rule):
                        self.assertIsInstance(led_down(kind, worth, rule), list)
                        self.assert_same(led_down(kind, worth, rule), expected)

    def test_steps_end_at_the_one_that_weighs_nothing(self):
        for kind in small_kinds():
            with self.subTest(kind=kind):
                lightest = min(listed(kind), key=lambda worth: plain_weight(kind, worth))
                for worth in listed(kind)[::5]:
                    self.assert_same(led_down(kind, worth, NEVER)[-1], lightest)

    def test_a_worth_that_keeps_the_rule(self):
        for kind in small_kinds()[::3]:
            for worth in listed(kind)[::7]:
                self.assert_refused(NoWorth, led_down, kind, worth, ALWAYS)
        self.assert_refused(NoWorth, led_down, AROUND, 2, ("sum", 2, 2))
        self.assert_refused(NoWorth, led_down, ("many", BIT, 0, 3), (0, 1), RISING)

    def test_a_new_list_each_time(self):
        led_down(AROUND, 2, NEVER).clear()
        self.assert_same(led_down(AROUND, 2, NEVER), [2, 1, 0])

    def test_no_worth(self):
        for rule in (NEVER, ALWAYS, RISING):
            for kind, things in WRONG_WORTHS:
                for thing in things + wrong_things():
                    self.assert_refused(NoWorth, led_down, kind, thing, rule)

    def test_no_kind_comes_ahead_of_no_worth(self):
        for thing in no_kinds():
            for worth in (0, "a", (), None, True, [0], deep_things()[0]):
                for rule in (NEVER, ALWAYS):
                    self.assert_refused(NoKind, led_down, thing, worth, rule)

    def test_no_rule_comes_first(self):
        for thing in no_rules():
            self.assert_refused(NoRule, led_down, BIT, 0, thing)
            self.assert_refused(NoRule, led_down, BIT, True, thing)
            self.assert_refused(NoRule, led_down, ["whole", 0, 1], 0, thing)
            self.assert_refused(NoRule, led_down, None, None, thing)
        for thing in no_kinds():
            self.assert_refused(NoRule, led_down, thing, thing, ("rising", 0))


class LeastBreakingTest(WorthCase):
    def test_written(self):
        cases = [
            (AROUND, NEVER, 0),
            (AROUND, ("sum", 0, 0), -1),
            (AROUND, ("sum", -1, 0), 1),
            (AROUND, ("sum", -3, 3), 4),
            (AROUND, ("sum", -3, 5), None),
            (AROUND, ("size", 1, 1), None),
            (BELOW, NEVER, -4),
            (BELOW, ("sum", -6, -4), -7),
            (ABOVE, NEVER, 3),
            (PAIR, NEVER, "ab"),
            (PAIR, ("word", "ab"), "c"),
            (PAIR, UNLIKE, None),
            (("many", BIT, 0, 3), NEVER, ()),
            (("many", BIT, 0, 3), ("size", 0, 0), (0,)),
            (("many", BIT, 0, 3), UNLIKE, (0, 0)),
            (("many", BIT, 0, 3), RISING, (1, 0)),
            (("many", BIT, 0, 3), ("sum", 0, 0), (1,)),
            (("many", BIT, 0, 3), ("sum", 0, 1), (1, 1)),
            (("many", ("whole", -2, 2), 2, 2), ("sum", 0, 0), (-1, 0)),
            (("many", ("whole", 0, 2), 2, 2), ("sum", 0, 1), (0, 2)),
            (("row", (FULL_PICK, BIT)), ("some", ("word", "d"), ("sum", 1, 1)), ("abc", 0)),
            (("row", (BIT, AROUND)), ("sum", 0, 2), (0, -1)),
            (("row", (BIT, BIT)), ("size", 2, 2), None),
        ]
        for kind, rule, expected in cases:
            with self.subTest(kind=kind, rule=rule):
                self.assert_same(least_breaking(kind, rule), expected)

    def test_least_by_weight_then_by_number(self):
        rules = RULES + drawn_rules(60)
        for place, kind in enumerate(small_kinds() + [OF_500]):
            for rule in rules[place % 5::5]:
                breaking = [(plain_weight(kind, worth), number, worth) for number, worth in enumerate(listed(kind))
                            if not plainly_keeps(rule, worth)]
                with self.subTest(kind=kind, rule=rule):
                    self.assert_same(least_breaking(kind, rule), min(breaking)[2] if breaking else None)

    def test_rules_that_none_breaks(self):
        for kind in small_kinds():
            self.assertIsNone(least_breaking(kind, ALWAYS))

    def test_no_rule_comes_first(self):
        for thing in no_rules():
            for kind in [BIT, OF_501, None, (), ("whole", 1, 0), deep_things()[0]]:
                self.assert_refused(NoRule, least_breaking, kind, thing)

    def test_no_kind(self):
        for thing in no_kinds():
            self.assert_refused(NoKind, least_breaking, thing, RISING)
            self.assert_refused(NoRule, least_breaking, thing, ("rising", 0))

    def test_too_many(self):
        widest = ("whole", -20, 20)
        self.assert_same(least_breaking(OF_500, NEVER), (1, 0, 0))
        for kind in [OF_501, ("row", (widest, widest)), ("many", ("many", widest, 0, 3), 0, 3)]:
            for rule in (NEVER, ALWAYS):
                self.assert_refused(TooMany, least_breaking, kind, rule)
            self.assert_refused(NoRule, least_breaking, kind, ["rising"])


class HandedInTest(WorthCase):
    def test_what_is_handed_in_stays(self):
        for thing in deep_rules() + deep_things() + [[0, 1]]:
            before = copy.deepcopy(thing)
            for function in (lesser, weight):
                self.assertRaises(NoWorth, function, BIT, thing)
                self.assertRaises(NoKind, function, thing, thing)
            self.assertRaises(NoRule, led_down, thing, thing, thing)
            self.assertRaises(NoKind, led_down, thing, thing, RISING)
            self.assertRaises(NoWorth, led_down, BIT, thing, RISING)
            self.assertRaises(NoRule, least_breaking, thing, thing)
            self.assertRaises(NoKind, least_breaking, thing, RISING)
            self.assertEqual(thing, before)
