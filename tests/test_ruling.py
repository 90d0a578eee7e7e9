import copy
import fractions
import inspect

from tests.cases import WorthCase
from tests.samples import (
    BIT, FULL_PICK, KINDS, OF_500, OF_501, PAIR, RISING, RULES, UNLIKE, deep_rules, deep_things, drawn_rules, listed,
    no_kinds, no_rules, plainly_keeps, shown, small_kinds,
)
from worthkinds.counting import how_many
from worthkinds.errors import NoKind, NoRule, TooMany
from worthkinds.ruling import alike_on, implies, parted, tally, tightest
from worthkinds.shares import share_of

NEVER = ("sum", 1, 0)
ALWAYS = ("no", NEVER)
BITS = ("many", BIT, 0, 2)
HUGE = ("many", ("many", ("whole", -20, 20), 0, 3), 0, 3)
TOO_MANY = [OF_501, ("row", (("whole", -20, 20),) * 2), HUGE]

# A kind, two rules, whether the one implies the other, and the other the one.
WRITTEN_PAIRS = [
    (BITS, RISING, RISING, True, True),
    (BITS, UNLIKE, ("no", ("no", UNLIKE)), True, True),
    (BITS, ("size", 0, 0), RISING, True, False),
    (BITS, ("size", 0, 0), ("size", 0, 1), True, False),
    (BITS, ("sum", 2, 2), ("no", UNLIKE), True, False),
    (BITS, ("sum", 1, 1), RISING, False, False),
    (BITS, RISING, UNLIKE, False, False),
    (BITS, NEVER, ALWAYS, True, False),
    (BITS, NEVER, ("sum", 3, 50), True, True),
    (BITS, ALWAYS, ("size", 0, 2), True, True),
    (BITS, ("word", "a"), ("word", "b"), True, True),
    (PAIR, ("word", "ab"), ("no", ("word", "c")), True, True),
    (FULL_PICK, ("word", "a"), ("some", ("word", "a"), ("word", "d")), True, False),
    (("whole", -3, 5), ("sum", 0, 2), ("sum", 0, 3), True, False),
    (("whole", -3, 5), ("sum", -50, 5), ("sum", -3, 50), True, True),
    (("row", (BIT, PAIR)), ("all", ("word", "c"), ("sum", 1, 1)), ("word", "c"), True, False),
]


def plain_ways(kind, rules):
    """Each worth with the truths, as it keeps the rules or not, straight from the document's words."""
    return [(tuple(plainly_keeps(rule, worth) for rule in rules), worth) for worth in listed(kind)]


def plain_tally(kind, rules):
    ways = plain_ways(kind, rules)
    told = []
    for way in sorted({way for way, _ in ways}):
        worths = [worth for other, worth in ways if other == way]
        shares = sum(fractions.Fraction(*share_of(kind, worth)) for worth in worths)
        told.append((way, len(worths), (shares.numerator, shares.denominator)))
    return told


def plain_parted(kind, rules):
    ways = plain_ways(kind, rules)
    lists = [[worth for other, worth in ways if other == way] for way in {way for way, _ in ways}]
    return sorted(lists, key=lambda worths: listed(kind).index(worths[0]))


def plain_tightest(kind, rules):
    counts = [sum(plainly_keeps(rule, worth) for worth in listed(kind)) for rule in rules]
    return [number for number, count in enumerate(counts) if all(count <= other for other in counts)]


def some_rules():
    """Some of the rules, in lists of one to five, some of them twice in one."""
    rules = RULES + drawn_rules(60)
    lists = [rules[start::17][:1 + start % 5] for start in range(17)]
    return [[], [RISING, RISING], [NEVER, ALWAYS, NEVER], rules[:8]] + lists


class PairsTest(WorthCase):
    def test_interface(self):
        for function, arguments in ((implies, 3), (alike_on, 3), (tally, 2), (parted, 2), (tightest, 2)):
            self.assertEqual(len(inspect.signature(function).parameters), arguments)

    def test_written(self):
        for kind, one, other, there, back in WRITTEN_PAIRS:
            with self.subTest(kind=kind, one=one, other=other):
                self.assertIs(implies(kind, one, other), there)
                self.assertIs(implies(kind, other, one), back)
                self.assertIs(alike_on(kind, one, other), there and back)
                self.assertIs(alike_on(kind, other, one), there and back)

    def test_as_the_document_tells(self):
        rules = RULES + drawn_rules(60)
        for place, kind in enumerate(small_kinds() + [OF_500]):
            chosen = rules[place % 7::7][:7]
            kept = [{number for number, worth in enumerate(listed(kind)) if plainly_keeps(rule, worth)}
                    for rule in chosen]
            with self.subTest(kind=kind):
                for one, by_one in zip(chosen, kept):
                    for other, by_other in zip(chosen, kept):
                        self.assertIs(implies(kind, one, other), by_one <= by_other)
                        self.assertIs(alike_on(kind, one, other), by_one == by_other)

    def test_no_rule_comes_first(self):
        for thing in no_rules():
            for kind in [BIT, HUGE, None, ("whole", 1, 0), deep_things()[0]]:
                for function in (implies, alike_on):
                    self.assert_refused(NoRule, function, kind, thing, RISING)
                    self.assert_refused(NoRule, function, kind, RISING, thing)
                    self.assert_refused(NoRule, function, kind, thing, thing)

    def test_no_kind_and_too_many(self):
        for function in (implies, alike_on):
            for one, other in ((RISING, UNLIKE), (NEVER, ALWAYS), (NEVER, NEVER), (ALWAYS, NEVER)):
                for thing in no_kinds():
                    self.assert_refused(NoKind, function, thing, one, other)
                for kind in TOO_MANY:
                    self.assert_refused(TooMany, function, kind, one, other)
            self.assertIs(function(OF_500, NEVER, NEVER), True)


class WaysTest(WorthCase):
    def test_tally_written(self):
        cases = [
            (BIT, [], [((), 2, (1, 1))]),
            (BIT, [RISING], [((True,), 2, (1, 1))]),
            (BIT, [NEVER, ALWAYS], [((False, True), 2, (1, 1))]),
            (BIT, [("sum", 1, 1)], [((False,), 1, (1, 2)), ((True,), 1, (1, 2))]),
            (PAIR, [("word", "c"), ("word", "ab")], [((False, True), 1, (3, 23)), ((True, False), 1, (20, 23))]),
            (BITS, [RISING, UNLIKE], [
                ((False, True), 1, (1, 12)), ((True, False), 2, (1, 6)), ((True, True), 4, (3, 4))]),
            (BITS, [UNLIKE, UNLIKE], [((False, False), 2, (1, 6)), ((True, True), 5, (5, 6))]),
        ]
        for kind, rules, told in cases:
            with self.subTest(kind=kind, rules=rules):
                self.assert_same(tally(kind, rules), told)
                self.assert_same(tally(kind, tuple(rules)), told)

    def test_parted_written(self):
        cases = [
            (BIT, [], [[0, 1]]),
            (BIT, [RISING], [[0, 1]]),
            (BIT, [("sum", 1, 1)], [[0], [1]]),
            (BIT, [("sum", 0, 0)], [[0], [1]]),
            (("whole", -1, 3), [("sum", 0, 1)], [[-1, 2, 3], [0, 1]]),
            (FULL_PICK, [("word", "z"), ("word", "abc")], [["d", "a"], ["abc"], ["z"]]),
            (BITS, [RISING, UNLIKE], [[(), (0,), (1,), (0, 1)], [(0, 0), (1, 1)], [(1, 0)]]),
        ]
        for kind, rules, told in cases:
            with self.subTest(kind=kind, rules=rules):
                self.assert_same(parted(kind, rules), told)
                self.assert_same(parted(kind, tuple(rules)), told)

    def test_tightest_written(self):
        cases = [
            (BIT, [], []),
            (BIT, [RISING], [0]),
            (BIT, [RISING, RISING], [0, 1]),
            (BIT, [NEVER, ALWAYS], [0]),
            (BIT, [ALWAYS, NEVER, RISING, NEVER], [1, 3]),
            (BIT, [("sum", 0, 0), ("sum", 1, 1), RISING], [0, 1]),
            (BITS, [RISING, UNLIKE, ("size", 1, 2)], [1]),
            (BITS, [("size", 2, 2), ALWAYS, ("no", ("size", 0, 1)), RISING], [0, 2]),
            (PAIR, [("word", "c"), ("word", "ab"), UNLIKE], [0, 1]),
        ]
        for kind, rules, told in cases:
            with self.subTest(kind=kind, rules=rules):
                self.assert_same(tightest(kind, rules), told)
                self.assert_same(tightest(kind, tuple(rules)), told)

    def test_as_the_document_tells(self):
        lists = some_rules()
        for place, kind in enumerate(small_kinds() + [OF_500]):
            for rules in [[]] + lists[place % 6::6]:
                with self.subTest(kind=kind, rules=rules):
                    self.assert_same(tally(kind, rules), plain_tally(kind, rules))
                    self.assert_same(parted(kind, rules), plain_parted(kind, rules))
                    self.assert_same(tightest(kind, rules), plain_tightest(kind, rules))
                    self.assert_same(tally(kind, tuple(rules)), tally(kind, rules))
                    self.assert_same(parted(kind, tuple(rules)), parted(kind, rules))
                    self.assert_same(tightest(kind, tuple(rules)), tightest(kind, rules))

    def test_all_worths_in_just_one_way(self):
        for place, kind in enumerate(small_kinds()):
            rules = some_rules()[place % 21]
            told = tally(kind, rules)
            lists = parted(kind, rules)
            with self.subTest(kind=kind, rules=rules):
                self.assertEqual(sum(count for _, count, _ in told), how_many(kind))
                self.assertEqual(sum(fractions.Fraction(*share) for _, _, share in told), 1)
                self.assertEqual(len({way for way, _, _ in told}), len(told))
                self.assertEqual(sorted(map(len, lists)), sorted(count for _, count, _ in told))
                together = [worth for worths in lists for worth in worths]
                self.assert_same(sorted(together, key=listed(kind).index), listed(kind))

    def test_new_lists_each_time(self):
        rules = [("sum", 1, 1)]
        for told in parted(BIT, rules):
            told.clear()
        parted(BIT, rules).clear()
        tally(BIT, rules).clear()
        tightest(BIT, rules).clear()
        self.assert_same(parted(BIT, rules), [[0], [1]])
        self.assertEqual(len(tally(BIT, rules)), 2)
        self.assert_same(tightest(BIT, rules), [0])

    def test_no_rule_comes_first(self):
        for thing in no_rules():
            for kind in [BIT, HUGE, None, ("whole", 1, 0)]:
                for function in (tally, parted, tightest):
                    self.assert_refused(NoRule, function, kind, [thing])
                    self.assert_refused(NoRule, function, kind, (thing,))
                    self.assert_refused(NoRule, function, kind, [RISING, thing, UNLIKE])
                    self.assert_refused(NoRule, function, kind, (RISING, UNLIKE, thing))
        for function in (tally, parted, tightest):
            for thing in (RISING, None, 0, True):
                self.assert_refused(NoRule, function, BIT, thing)

    def test_no_kind_and_too_many(self):
        for function in (tally, parted, tightest):
            for rules in ([], (), [RISING], (NEVER, ALWAYS), [UNLIKE, UNLIKE]):
                for thing in no_kinds():
                    self.assert_refused(NoKind, function, thing, rules)
                for kind in TOO_MANY:
                    self.assert_refused(TooMany, function, kind, rules)
        self.assert_same(tally(OF_500, []), [((), 500, (1, 1))])
        self.assertEqual(len(parted(OF_500, [])[0]), 500)
        self.assert_same(tightest(OF_500, [RISING, RISING]), [0, 1])


class HandedInTest(WorthCase):
    def test_what_is_handed_in_stays(self):
        for thing in deep_rules() + deep_things() + [[0, 1]]:
            rules = [RISING, thing, thing]
            before = copy.deepcopy(rules)
            with self.subTest(thing=shown(thing)):
                for function in (implies, alike_on):
                    self.assertRaises(NoRule, function, thing, thing, thing)
                    self.assertRaises(NoKind, function, thing, RISING, RISING)
                for function in (tally, parted, tightest):
                    self.assertRaises(NoRule, function, BIT, rules)
                    self.assertRaises(NoKind, function, thing, rules[:1])
                self.assertEqual(rules, before)

    def test_a_list_of_rules_stays(self):
        for function in (tally, parted, tightest):
            for rules in some_rules():
                before = copy.deepcopy(rules)
                for kind in KINDS[::5]:
                    function(kind, rules)
                self.assert_same(rules, before)
