import copy
import inspect
from fractions import Fraction

from tests.cases import WorthCase
from tests.samples import (
    BIT, KINDS, OF_500, OF_501, PAIR, RISING, RULES, UNLIKE,
    changed_at_each_place, changed_lists, deep_rules, deep_things, drawn_rules, listed, nested, no_kinds, no_rules,
    plainly_keeps, shown, small_kinds,
)
from worthkinds.errors import NoKind, NoRule, TooMany
from worthkinds.rules import is_rule, keepers, keeps, share_keeping
from worthkinds.shares import share_of

ABOVE_500 = [OF_501, ("row", (("whole", -20, 20),) * 2), ("many", ("many", ("whole", -20, 20), 0, 3), 0, 3)]


class IsRuleTest(WorthCase):
    def check(self, expected, things):
        for thing in things:
            with self.subTest(thing=shown(thing)):
                self.assertIs(is_rule(thing), expected)

    def test_interface(self):
        for function, arguments in ((is_rule, 1), (keeps, 2), (keepers, 2), (share_keeping, 2)):
            self.assertEqual(len(inspect.signature(function).parameters), arguments)

    def test_ordinary_rules(self):
        self.check(True, RULES + drawn_rules(200))

    def test_bounds(self):
        for sort in ("sum", "size"):
            self.check(True, [
                (sort, -50, 50), (sort, -50, -50), (sort, 50, 50), (sort, 0, 0), (sort, 50, -50), (sort, 1, 0),
                (sort, -49, -50), (sort, 50, 49),
            ])
            self.check(False, [
                (sort, -51, 50), (sort, -50, 51), (sort, 51, 51), (sort, -51, -51), (sort, 51, -51), (sort, 51, 0),
                (sort, 0, -51), (sort, 0, 10 ** 5000), (sort, -(10 ** 5000), 0),
            ])

    def test_form_of_sum_and_size(self):
        for sort in ("sum", "size"):
            self.check(False, [
                (sort,), (sort, 0), (sort, 0, 1, 2), (sort, (0, 1)), [sort, 0, 1], (sort, True, 1), (sort, 0, True),
                (sort, False, True), (sort, False, 0), (sort, "0", "1"), (sort, None, 1), (sort, 0, None),
                (sort, [0], [1]), (sort, (0,), (1,)), (sort.upper(), 0, 1), (sort + " ", 0, 1), sort,
                ((sort,), 0, 1), ([sort], 0, 1), (sort, RISING, RISING),
            ])

    def test_words(self):
        self.check(True, [("word", word) for word in ("a", "z", "az", "abc", "zzz")])
        self.check(False, [("word", word) for word in (
            "", "abcd", "A", "aB", "1", "a1", "a b", " a", "a ", "-", "`", "{", "a\n", "\n", "\u00e4", "\uff41",
            None, True, 1, ("a",), ["a"], ("a", 1), (), [],
        )])
        self.check(False, [("word",), ("word", "a", "b"), ("word", "a", 1), ["word", "a"], "word", ("Word", "a")])

    def test_form_of_rising_and_unlike(self):
        for sort in ("rising", "unlike"):
            self.check(True, [(sort,)])
            self.check(False, [sort, [sort], ((sort,),), (sort, 0), (sort, None), (sort, ()), (sort, sort), (sort, 0, 1),
                               (sort, (sort,)), (sort.upper(),), (sort[:-1],), (sort + " ",)])

    def test_form_of_no(self):
        self.check(True, [("no", rule) for rule in (RISING, UNLIKE, ("sum", 1, 0), ("word", "a"))])
        self.check(False, [("no",), ("no", RISING, RISING), ("no", "rising"), ("no", ["rising"]), ["no", RISING],
                           ("no", None), ("no", True), ("no", ()), ("no", ("sum", 0, 51)), ("no", (RISING,)), "no",
                           ("not", RISING), ("no", BIT)])

    def test_form_of_all_and_some(self):
        for sort in ("all", "some"):
            self.check(True, [(sort, RISING, RISING), (sort, UNLIKE, ("size", 0, 1))])
            self.check(False, [
                (sort,), (sort, RISING), (sort, RISING, UNLIKE, RISING), (sort, (RISING, UNLIKE)),
                [sort, RISING, UNLIKE], (sort, ["rising"], UNLIKE), (sort, RISING, ["unlike"]), (sort, RISING, None),
                (sort, None, RISING), (sort, True, False), (sort, RISING, ("sum", 0, 51)), (sort, 0, 1),
                (sort, ("sum", 0, 51), RISING), (sort, "rising", "unlike"), sort,
            ])

    def test_depth(self):
        wraps = [lambda rule: ("no", rule), lambda rule: ("all", RISING, rule), lambda rule: ("some", rule, UNLIKE)]
        for leaf in (RISING, ("sum", 0, 1), ("word", "a")):
            for first in wraps:
                for second in wraps:
                    deep = second(first(leaf))
                    self.check(True, [leaf, first(leaf), deep])
                    self.check(False, [wrap(deep) for wrap in wraps])
        self.check(True, [nested(RISING, 2, lambda rule: ("all", rule, rule))])
        self.check(False, [nested(RISING, 3, lambda rule: ("all", rule, rule))])

    def test_any_thing(self):
        self.check(False, no_rules() + KINDS + [0, 1, 50, "a", "rising", (0,), ("",), (None,), (True, 0, 1)])

    def test_wrong_thing_at_any_place(self):
        junk = [thing for thing in no_rules() if not isinstance(thing, tuple)] + deep_rules()[::5]
        for rule in RULES:
            self.check(False, changed_at_each_place(rule, lambda part: junk))
            self.check(False, changed_lists(rule))

    def test_one_part_too_many_or_too_few(self):
        for rule in RULES:
            self.check(False, [rule + (part,) for part in (0, None, RISING, "a")] + [rule[:-1], rule[1:]])


class KeepsTest(WorthCase):
    def check(self, expected, rule, worths):
        for worth in worths:
            with self.subTest(rule=rule, worth=worth):
                self.assertIs(keeps(rule, worth), expected)
                if is_rule(("no", rule)):
                    self.assertIs(keeps(("no", rule), worth), not expected)

    def test_sum(self):
        self.check(True, ("sum", 1, 3), [1, 2, 3, (1,), (3,), (0, 1), (5, -3), (1, "ab"), (("ab", 1), (1, (1,)))])
        self.check(False, ("sum", 1, 3), [0, 4, -1, (), "ab", ("ab",), (0,), (2, 2), (4,), ((), ()), (1, (1, (2,)))])
        self.check(True, ("sum", 0, 0), [0, (), "c", ("c", "c"), (1, -1), ((1,), (-1,)), ((), "c")])
        self.check(True, ("sum", -50, 50), [20, -20, (20, 20, 10), (-20, -20, -10), ()])
        self.check(False, ("sum", -50, 50), [(20, 20, 11), (-20, -20, -11)])
        self.check(True, ("sum", 50, 50), [(20, 20, 10)])
        self.check(True, ("sum", -50, -50), [(-20, -20, -10)])

    def test_size(self):
        self.check(True, ("size", 1, 1), [0, 7, -20, "ab", (0,), ("ab",), ((),), ((0, 1, 2),)])
        self.check(False, ("size", 1, 1), [(), (0, 0), (0, 0, 0), ((), ())])
        self.check(True, ("size", 2, 3), [(0, 0), (0, 0, 0), ((), ()), ((0,), "ab")])
        self.check(False, ("size", 2, 3), [0, 2, 3, "ab", "abc", (), (0,), ((0, 0),), ((0, 0, 0),), (0, 0, 0, 0)])
        self.check(True, ("size", 0, 0), [()])
        self.check(False, ("size", 0, 0), [0, "a", (0,), ((),)])
        self.check(True, ("size", -50, 50), [0, "a", (), (0, 0, 0)])
        self.check(False, ("size", 2, 50), [0, "a", (), (1,)])

    def test_low_above_high(self):
        worths = [-1, 0, 1, 2, "a", (), (0,), (1, 1), (1, 1, 1)]
        for sort in ("sum", "size"):
            for low, high in ((2, 1), (1, 0), (50, -50), (1, -1)):
                self.check(False, (sort, low, high), worths)

    def test_word(self):
        self.check(True, ("word", "ab"), ["ab", ("ab",), (0, "ab"), ("c", ("c", "ab")), ((), ((("ab",),),), 1)])
        self.check(False, ("word", "ab"), [
            "a", "b", "abc", "c", 0, (), ("a", "b"), ("abc",), (("a",), ("b",)), (0, 1), "cab", ((), ()),
        ])
        self.check(False, ("word", "a"), ["ab", "aa", ("ab", "ba")])

    def test_rising(self):
        self.check(True, RISING, [
            0, -3, "ab", (), (1,), (1, 1), (-2, 0, 5), ("c", "ab", "a"), (1, "ab", 1), (1, "ab", 2), ((1, 2), (2, 3)),
            (((1,), ()), 1, ("c", (4,))), ((), ()), ((2,),),
        ])
        self.check(False, RISING, [
            (1, 0), (-1, -2), (0, 2, 1), (2, 1, 3), (1, "ab", 0), ((1, 2), (1, 3)), ((3,), (), (2,)), (1, (0,)),
            ((1,), 0), ((2, 1),), (("c", 2), ("a", 1)),
        ])

    def test_unlike(self):
        self.check(True, UNLIKE, [
            0, "ab", "aa", (), (0,), (0, 1), ("a", "b", "ab"), (0, (0,)), ((0, 0),), ((0, 0), (0,)), ((0, 1), (1, 0)),
            ((), ((),)), (1, -1), ((1, 1), (2, 2)),
        ])
        self.check(False, UNLIKE, [
            (0, 0), ("a", "a"), (0, 1, 0), (1, 0, 0), (0, 0, 1), ((), ()), ((0, 1), (0, 1)), ((0,), 1, (0,)),
            (("a", (0,)), ("a", (0,))),
        ])

    def test_no_all_and_some(self):
        for first, one in ((True, ("sum", 1, 1)), (False, ("sum", 2, 2))):
            for second, other in ((True, ("size", 1, 1)), (False, ("size", 2, 2))):
                self.check(first and second, ("all", one, other), [1, (1,)])
                self.check(first or second, ("some", one, other), [1, (1,)])
                self.check(first and not second, ("all", one, ("no", other)), [1, (1,)])
                self.check(not first or second, ("some", ("no", one), other), [1, (1,)])
        self.check(True, ("no", ("no", RISING)), [(0, 1)])
        self.check(False, ("no", ("no", RISING)), [(1, 0)])

    def test_as_the_document_tells(self):
        rules = RULES + drawn_rules(60)
        for kind in small_kinds()[::3]:
            for worth in listed(kind)[::7]:
                for rule in rules:
                    if keeps(rule, worth) is not plainly_keeps(rule, worth):
                        self.fail((rule, worth))

    def test_worths_somewhat_beyond_the_bounds(self):
        self.check(True, ("sum", 50, 50), [50, (30, 20), (10,) * 5])
        self.check(True, ("size", 5, 5), [(0,) * 5])
        self.check(True, ("word", "a"), [nested("a", 10, lambda worth: (worth, 0))])
        self.check(False, RISING, [nested(1, 10, lambda worth: (worth, 0))])

    def test_no_rule(self):
        for thing in no_rules():
            for worth in (0, "a", (), (0, 1), None, True, [0], deep_things()[0]):
                self.assert_refused(NoRule, keeps, thing, worth)


class KeepersTest(WorthCase):
    def test_written(self):
        cases = [
            (("whole", -2, 3), ("sum", 0, 1), [0, 1]),
            (("whole", -2, 3), ("no", ("sum", 0, 1)), [-2, -1, 2, 3]),
            (("whole", -2, 3), ("size", 1, 1), [-2, -1, 0, 1, 2, 3]),
            (PAIR, ("word", "c"), ["c"]),
            (PAIR, ("no", ("word", "c")), ["ab"]),
            (("row", (BIT, BIT)), RISING, [(0, 0), (0, 1), (1, 1)]),
            (("row", (BIT, BIT)), UNLIKE, [(0, 1), (1, 0)]),
            (("many", BIT, 0, 2), ("sum", 1, 1), [(1,), (0, 1), (1, 0)]),
            (("many", BIT, 0, 2), ("size", 0, 1), [(), (0,), (1,)]),
            (("many", BIT, 0, 2), ("sum", 3, 50), []),
            (("row", (PAIR, BIT)), ("some", ("word", "c"), ("sum", 1, 1)), [("ab", 1), ("c", 0), ("c", 1)]),
        ]
        for kind, rule, expected in cases:
            with self.subTest(kind=kind, rule=rule):
                self.assert_same(keepers(kind, rule), expected)

    def test_as_the_document_tells(self):
        rules = RULES + drawn_rules(60)
        for place, kind in enumerate(small_kinds()):
            for rule in rules[place % 5::5]:
                with self.subTest(kind=kind, rule=rule):
                    told = keepers(kind, rule)
                    self.assertIsInstance(told, list)
                    self.assert_same(told, [worth for worth in listed(kind) if plainly_keeps(rule, worth)])

    def test_of_500(self):
        self.assert_same(keepers(OF_500, ("size", 3, 3)), listed(OF_500))
        self.assert_same(keepers(OF_500, RISING), [worth for worth in listed(OF_500) if plainly_keeps(RISING, worth)])

    def test_a_new_list_each_time(self):
        for kind in KINDS:
            first = keepers(kind, ("sum", -50, 50))
            first.clear()
            self.assert_same(keepers(kind, ("sum", -50, 50)), [
                worth for worth in listed(kind) if plainly_keeps(("sum", -50, 50), worth)])


class ShareKeepingTest(WorthCase):
    def test_written(self):
        even = ("pick", (("a", 2), ("b", 4), ("c", 6)))
        cases = [
            (("whole", -2, 3), ("sum", 0, 1), (1, 3)),
            (("whole", -2, 3), ("sum", 4, 5), (0, 1)),
            (("whole", -2, 3), ("sum", -50, 50), (1, 1)),
            (PAIR, ("word", "c"), (20, 23)),
            (even, ("word", "c"), (1, 2)),
            (even, ("no", ("word", "b")), (2, 3)),
            (even, ("some", ("word", "a"), ("word", "c")), (2, 3)),
            (("row", (BIT, BIT)), RISING, (3, 4)),
            (("row", (even, BIT)), ("all", ("word", "b"), ("sum", 1, 1)), (1, 6)),
            (("many", BIT, 0, 2), ("sum", 1, 1), (1, 3)),
            (("many", BIT, 0, 2), ("size", 0, 1), (2, 3)),
            (("many", even, 1, 2), UNLIKE, (29, 36)),
        ]
        for kind, rule, share in cases:
            with self.subTest(kind=kind, rule=rule):
                self.assert_same(share_keeping(kind, rule), share)

    def test_all_shares_of_the_keepers_together(self):
        rules = RULES + drawn_rules(60)
        for place, kind in enumerate(small_kinds() + [OF_500]):
            for rule in rules[place % 9::9]:
                kept = [worth for worth in listed(kind) if plainly_keeps(rule, worth)]
                whole = sum((Fraction(*share_of(kind, worth)) for worth in kept), Fraction(0))
                with self.subTest(kind=kind, rule=rule):
                    self.assert_same(share_keeping(kind, rule), (whole.numerator, whole.denominator))

    def test_a_rule_and_its_no_are_the_whole(self):
        rules = [rule for rule in RULES + drawn_rules(60) if is_rule(("no", rule))]
        for place, kind in enumerate(small_kinds()):
            for rule in rules[place % 9::9]:
                with self.subTest(kind=kind, rule=rule):
                    kept = Fraction(*share_keeping(kind, rule))
                    self.assertEqual(kept + Fraction(*share_keeping(kind, ("no", rule))), 1)


class RefusalsTest(WorthCase):
    def test_no_rule_comes_first(self):
        for function in (keepers, share_keeping):
            for thing in no_rules():
                for kind in [BIT, OF_501, None, (), ("whole", 1, 0), deep_things()[0]]:
                    self.assert_refused(NoRule, function, kind, thing)

    def test_no_rule_comes_ahead_of_no_kind(self):
        for function in (keepers, share_keeping):
            for thing in no_kinds():
                self.assert_refused(NoRule, function, thing, ("sum", 0, 51))
                self.assert_refused(NoKind, function, thing, ("sum", 0, 50))

    def test_too_many(self):
        for function in (keepers, share_keeping):
            for kind in ABOVE_500:
                self.assert_refused(TooMany, function, kind, RISING)
                self.assert_refused(TooMany, function, kind, ("sum", 1, 0))
                self.assert_refused(NoRule, function, kind, ["rising"])
        self.assertEqual(share_keeping(OF_500, ("size", 3, 3)), (1, 1))

    def test_what_is_handed_in_stays(self):
        for thing in deep_rules() + deep_things():
            before = copy.deepcopy(thing)
            is_rule(thing)
            self.assertRaises(NoRule, keeps, thing, thing)
            for function in (keepers, share_keeping):
                self.assertRaises(NoRule, function, thing, thing)
                self.assertRaises(NoKind, function, thing, RISING)
            self.assertEqual(thing, before)
