"""What the document promises over the whole program: 0.2, letter by letter, 0.3, and the interface."""

import copy
import fractions
import importlib
import inspect
import itertools
import pathlib
import subprocess
import sys

from tests.cases import WorthCase
from tests.samples import (
    BIT, KINDS, OF_500, OF_501, PAIR, RISING, RULES, UNLIKE, changed_at_each_place, deep_rules, deep_things, drawn_kinds,
    drawn_rules, listed, no_kinds, no_rules, plainly_keeps, small_kinds, wrong_things,
)
from worthkinds.common import are_apart, both, is_within
from worthkinds.counting import all_worths, how_many, number_of, worth_of
from worthkinds.errors import NoKind, NoRule, NoWorth, TooMany, WorthError
from worthkinds.finding import Finder, most_asks
from worthkinds.kinds import is_kind, is_worth
from worthkinds.kindtexts import kind_text, read_kind, read_rule, rule_text
from worthkinds.least import least_breaking, led_down, lesser, weight
from worthkinds.rules import is_rule, keepers, keeps, share_keeping
from worthkinds.ruling import alike_on, implies, parted, tally, tightest
from worthkinds.shapes import depth, mirrored, mirrored_worth, reach, words_in
from worthkinds.shares import mean, share_of
from worthkinds.sieves import Sieve, best_rule, read_sieve, sieve_text
from worthkinds.stepping import between, middle, next_worth, worth_ahead
from worthkinds.texts import read_worth, worth_text

ROOT = pathlib.Path(__file__).resolve().parent.parent

# The names of each file, with how many arguments they take.
INTERFACE = {
    "errors": {},
    "kinds": {"is_kind": 1, "is_worth": 2},
    "counting": {"how_many": 1, "worth_of": 2, "number_of": 2, "all_worths": 1},
    "shares": {"share_of": 2, "mean": 1},
    "common": {"both": 2, "is_within": 2, "are_apart": 2},
    "rules": {"is_rule": 1, "keeps": 2, "keepers": 2, "share_keeping": 2},
    "least": {"lesser": 2, "weight": 2, "led_down": 3, "least_breaking": 2},
    "finding": {"most_asks": 1, "Finder": 1},
    "texts": {"worth_text": 2, "read_worth": 2},
    "kindtexts": {"kind_text": 1, "read_kind": 1, "rule_text": 1, "read_rule": 1},
    "stepping": {"next_worth": 2, "worth_ahead": 2, "between": 3, "middle": 1},
    "sieves": {"Sieve": 1, "best_rule": 2, "sieve_text": 1, "read_sieve": 1},
    "shapes": {"depth": 1, "words_in": 1, "reach": 1, "mirrored": 1, "mirrored_worth": 2},
    "ruling": {"implies": 3, "alike_on": 3, "tally": 2, "parted": 2, "tightest": 2},
}

# What refuses kinds, rules and worths: its arguments, and whether TooMany is told of the whole kind.
REFUSING = [
    (lambda kind: is_worth(kind, 0), ["kind"], False),
    (how_many, ["kind"], False),
    (lambda kind: worth_of(kind, 0), ["kind"], False),
    (number_of, ["kind", "worth"], False),
    (all_worths, ["kind"], True),
    (share_of, ["kind", "worth"], False),
    (mean, ["kind"], False),
    (both, ["kind", "kind"], False),
    (is_within, ["kind", "kind"], False),
    (are_apart, ["kind", "kind"], False),
    (lambda rule: keeps(rule, 0), ["rule"], False),
    (keepers, ["kind", "rule"], True),
    (share_keeping, ["kind", "rule"], True),
    (lesser, ["kind", "worth"], False),
    (weight, ["kind", "worth"], False),
    (led_down, ["kind", "worth", "rule"], False),
    (least_breaking, ["kind", "rule"], True),
    (most_asks, ["kind"], False),
    (Finder, ["kind"], False),
    (worth_text, ["kind", "worth"], False),
    (lambda kind: read_worth(kind, "0"), ["kind"], False),
    (kind_text, ["kind"], False),
    (rule_text, ["rule"], False),
    (next_worth, ["kind", "worth"], False),
    (worth_ahead, ["kind", "worth"], False),
    (between, ["kind", "worth", "worth"], False),
    (middle, ["kind"], False),
    (Sieve, ["kind"], True),
    (lambda rule: Sieve(BIT).keep(rule), ["rule"], False),
    (lambda rule: Sieve(BIT).bar(rule), ["rule"], False),
    (lambda kind: best_rule(kind, []), ["kind"], True),
    (lambda kind, one, other: best_rule(kind, [one, other]), ["kind", "rule", "rule"], True),
    (depth, ["kind"], False),
    (words_in, ["kind"], False),
    (reach, ["kind"], False),
    (mirrored, ["kind"], False),
    (mirrored_worth, ["kind", "worth"], False),
    (implies, ["kind", "rule", "rule"], True),
    (alike_on, ["kind", "rule", "rule"], True),
    (lambda kind: tally(kind, ()), ["kind"], True),
    (lambda kind, one, other: tally(kind, (one, other)), ["kind", "rule", "rule"], True),
    (lambda kind: parted(kind, []), ["kind"], True),
    (lambda kind, one, other: parted(kind, [one, other]), ["kind", "rule", "rule"], True),
    (lambda kind: tightest(kind, []), ["kind"], True),
    (lambda kind, one, other: tightest(kind, (one, other)), ["kind", "rule", "rule"], True),
]

NEVER = ("sum", 1, 0)
HUGE = ("many", ("many", ("whole", -20, 20), 0, 3), 0, 3)
GOOD = {"kind": BIT, "rule": NEVER, "worth": 1}
WRONG = {"kind": (NoKind, no_kinds), "rule": (NoRule, no_rules),
         "worth": (NoWorth, lambda: wrong_things() + [2, "0", (0,), (), [1], (1, 1)])}
ORDER = [NoRule, NoKind, NoWorth, TooMany]


def fraction_sum(shares):
    return sum((fractions.Fraction(*share) for share in shares), fractions.Fraction(0))


def truths_put_in(thing):
    """All that come of putting a truth in the place of a 0 or a 1."""
    return changed_at_each_place(thing, lambda part: [bool(part)] if part in (0, 1) and isinstance(part, int) else [])


class InterfaceTest(WorthCase):
    def test_names_and_arguments(self):
        for module, names in INTERFACE.items():
            held = importlib.import_module("worthkinds." + module)
            for name, arguments in names.items():
                self.assertEqual(len(inspect.signature(getattr(held, name)).parameters), arguments, name)

    def test_each_file_by_itself(self):
        for module in INTERFACE:
            run = subprocess.run([sys.executable, "-c", f"import worthkinds.{module}"], cwd=ROOT, capture_output=True)
            self.assertEqual((run.returncode, run.stdout, run.stderr), (0, b"", b""))


class RefusalTest(WorthCase):
    def test_nothing_is_refused_that_is_right(self):
        for function, sorts, _ in REFUSING:
            function(*[GOOD[sort] for sort in sorts])

    def test_any_thing(self):
        for function, sorts, _ in REFUSING:
            for place, sort in enumerate(sorts):
                refusal, things = WRONG[sort]
                for thing in things():
                    arguments = [thing if here == place else GOOD[other] for here, other in enumerate(sorts)]
                    self.assert_refused(refusal, function, *arguments)

    def test_several_that_are_due(self):
        wrong = {"kind": [None, ("whole", True, 1), [], deep_things()[3]], "rule": [True, ["rising"], deep_rules()[0]],
                 "worth": [True, None, [0], deep_things()[0]]}
        for function, sorts, _ in REFUSING:
            for chosen in itertools.product([False, True], repeat=len(sorts)):
                due = [WRONG[sort][0] for sort, is_wrong in zip(sorts, chosen) if is_wrong]
                for number in range(4 if due else 0):
                    arguments = [wrong[sort][number % len(wrong[sort])] if is_wrong else GOOD[sort]
                                 for sort, is_wrong in zip(sorts, chosen)]
                    self.assert_refused(min(due, key=ORDER.index), function, *arguments)

    def test_too_many_comes_last(self):
        for function, sorts, is_told in REFUSING:
            if is_told:
                for kind in (OF_501, HUGE):
                    arguments = [kind if sort == "kind" else GOOD[sort] for sort in sorts]
                    self.assert_refused(TooMany, function, *arguments)
                    for place, sort in enumerate(sorts):
                        if sort == "rule":
                            changed = arguments[:place] + [("rising", 1)] + arguments[place + 1:]
                            self.assert_refused(NoRule, function, *changed)
                function(*[OF_500 if sort == "kind" else GOOD[sort] for sort in sorts])
        self.assert_refused(TooMany, between, HUGE, (), ((20,), (20,)))
        self.assert_refused(NoWorth, between, HUGE, (), ((21,), (20,)))
        self.assert_refused(NoKind, between, OF_501 + (1,), (), ((21,), (20,)))

    def test_truths_are_no_whole_numbers(self):
        for function, sorts, _ in REFUSING:
            samples = {"kind": [BIT, ("many", BIT, 0, 1), ("pick", (("a", 1),)), ("row", (("whole", 1, 1), PAIR))],
                       "rule": [("sum", 0, 1), ("no", ("size", 1, 0)), ("all", RISING, ("sum", 1, 1))],
                       "worth": [0, 1]}
            for place, sort in enumerate(sorts):
                for thing in [other for sample in samples[sort] for other in truths_put_in(sample)]:
                    arguments = [thing if here == place else GOOD[other] for here, other in enumerate(sorts)]
                    self.assert_refused(WRONG[sort][0], function, *arguments)
        for kind, worth in [(("many", BIT, 0, 2), (0, 1)), (("row", (BIT, ("many", BIT, 1, 1))), (1, (0,)))]:
            for thing in truths_put_in(worth):
                for function, sorts, _ in REFUSING:
                    if "worth" in sorts:
                        arguments = [{"kind": kind, "worth": thing, "rule": NEVER}[sort] for sort in sorts]
                        self.assert_refused(NoWorth, function, *arguments)

    def test_all_refusals_stand_under_one(self):
        self.assertTrue(issubclass(WorthError, ValueError))
        for function, sorts, _ in REFUSING:
            self.assert_refused(WorthError, function, *[None for _ in sorts])


class ToldTest(WorthCase):
    def told(self):
        """All lists that the program tells of one kind, each from a call of its own."""
        kind = ("many", BIT, 0, 2)
        sieve = Sieve(kind)
        sieve.keep(UNLIKE)
        return [
            all_worths(kind), keepers(kind, RISING), lesser(kind, (1, 0)), led_down(kind, (1, 1), NEVER),
            between(kind, (), (1, 1)), words_in(PAIR), tally(kind, [RISING]), parted(kind, [RISING]),
            parted(kind, [RISING])[0], tightest(kind, [RISING, NEVER]), sieve.worths(), sieve.steps(),
        ]

    def test_new_lists_each_time(self):
        first = self.told()
        expected = copy.deepcopy(first)
        for each in first:
            self.assertIsInstance(each, list)
            self.assertNotEqual(each, [])
            each.clear()
        self.assert_same(self.told(), expected)


class WholeTest(WorthCase):
    """Each letter of 0.2, for kinds of all four sorts and rules of all eight."""

    def each_kind_with_rules(self, count):
        rules = RULES + drawn_rules(60)
        for place, kind in enumerate(small_kinds()):
            yield kind, rules[place % len(rules)::23][:count]

    def test_a_numbers(self):
        for kind in small_kinds():
            worths = [worth_of(kind, number) for number in range(how_many(kind))]
            self.assert_same(worths, listed(kind))
            self.assert_same([number_of(kind, worth) for worth in worths], list(range(len(worths))))
            self.assert_same(all_worths(kind), worths)

    def test_b_shares(self):
        for kind, rules in self.each_kind_with_rules(3):
            self.assertEqual(fraction_sum(share_of(kind, worth) for worth in all_worths(kind)), 1)
            for rule in rules:
                if is_rule(("no", rule)):
                    shares = [share_keeping(kind, rule), share_keeping(kind, ("no", rule))]
                    self.assertEqual(fraction_sum(shares), 1)

    def test_c_in_common(self):
        kinds = KINDS + small_kinds()[len(KINDS)::9]
        for place, one in enumerate(kinds):
            for other in kinds[place % 7::7]:
                with self.subTest(one=one, other=other):
                    worths = [worth for worth in listed(one) if is_worth(other, worth)]
                    common = both(one, other)
                    self.assertIs(are_apart(one, other), worths == [])
                    self.assertIs(is_within(one, other), worths == listed(one))
                    if not worths:
                        self.assertIsNone(common)
                    else:
                        self.assertTrue(is_kind(common))
                        self.assertEqual(sorted(map(repr, all_worths(common))), sorted(map(repr, worths)))
                        self.assertTrue(is_within(common, one) and is_within(common, other))

    def test_d_lesser_worths(self):
        for kind in small_kinds()[::2]:
            for worth in listed(kind):
                led = led_down(kind, worth, NEVER)
                self.assertEqual([weight(kind, each) for each in led][-1], 0)
                self.assertEqual(lesser(kind, led[-1]), [])
                for one, other in zip(led, led[1:]):
                    self.assertLess(weight(kind, other), weight(kind, one))

    def test_e_least_breaking(self):
        for kind, rules in self.each_kind_with_rules(3):
            for rule in rules:
                weights = [weight(kind, worth) for worth in listed(kind) if not plainly_keeps(rule, worth)]
                told = least_breaking(kind, rule)
                self.assertEqual(None if told is None else weight(kind, told), min(weights, default=None))

    def test_f_asks(self):
        for kind in small_kinds():
            asks = []
            for number, worth in enumerate(listed(kind)):
                finder = Finder(kind)
                while finder.found() is None:
                    finder.answer(number < finder.ask())
                self.assert_same(finder.found(), worth)
                asks.append(finder.asks())
            self.assertEqual(max(asks), most_asks(kind))
            # As many as can be told apart by so many answers, and not by one fewer.
            self.assertTrue(2 ** max(asks) // 2 < len(asks) <= 2 ** max(asks))

    def test_g_texts(self):
        for kind, rules in self.each_kind_with_rules(3):
            self.assert_same(read_kind(kind_text(kind)), kind)
            for worth in listed(kind):
                self.assert_same(read_worth(kind, worth_text(kind, worth)), worth)
            sieve = Sieve(kind)
            for rule in rules:
                self.assert_same(read_rule(rule_text(rule)), rule)
                sieve.bar(rule)
            again = read_sieve(sieve_text(sieve))
            self.assert_same((again.base(), again.steps(), again.worths()), (kind, sieve.steps(), sieve.worths()))

    def test_h_from_worth_to_worth(self):
        for kind in small_kinds():
            worths = all_worths(kind)
            self.assert_same([next_worth(kind, worth) for worth in worths], worths[1:] + [None])
            self.assert_same([worth_ahead(kind, worth) for worth in worths], [None] + worths[:-1])
            self.assert_same(between(kind, worths[0], worths[-1]), worths)
            self.assertIn(worths.index(middle(kind)) * 2 + 1 - len(worths), (0, -1))

    def test_i_sieves(self):
        for kind, rules in self.each_kind_with_rules(4):
            sieve = Sieve(kind)
            worths = [sieve.worths()]
            for rule in rules:
                twin = sieve.twin()
                self.assertEqual(twin.bar(rule) + sieve.keep(rule), len(worths[-1]))
                together = sorted(sieve.worths() + twin.worths(), key=worths[0].index)
                self.assert_same(together, worths[-1])
                worths.append(sieve.worths())
            for left in worths[-2::-1]:
                sieve.back()
                self.assert_same(sieve.worths(), left)
            for left in worths[1:]:
                sieve.forth()
                self.assert_same(sieve.worths(), left)

    def test_j_the_other_way_about(self):
        for kind in small_kinds():
            other = mirrored(kind)
            self.assert_same(how_many(other), how_many(kind))
            turned = [mirrored_worth(kind, worth) for worth in listed(kind)]
            self.assertEqual(sorted(map(repr, turned)), sorted(map(repr, all_worths(other))))
            for worth, about in zip(listed(kind), turned):
                self.assert_same(share_of(other, about), share_of(kind, worth))
                self.assert_same(mirrored_worth(other, about), worth)

    def test_k_ways(self):
        for kind, rules in self.each_kind_with_rules(4):
            told = tally(kind, rules)
            self.assertEqual(sum(count for _, count, _ in told), how_many(kind))
            self.assertEqual(fraction_sum(share for _, _, share in told), 1)
            places = [number_of(kind, worth) for worths in parted(kind, rules) for worth in worths]
            self.assertEqual(sorted(places), list(range(how_many(kind))))
            for worths in parted(kind, rules):
                ways = {tuple(keeps(rule, worth) for rule in rules) for worth in worths}
                self.assertEqual(len(ways), 1)
                self.assertIn((ways.pop(), len(worths)), [(way, count) for way, count, _ in told])

    def test_kinds_of_very_many_worths(self):
        for kind in [HUGE] + drawn_kinds(60):
            last = how_many(kind) - 1
            for number in (0, last // 2, last):
                worth = worth_of(kind, number)
                self.assert_same(number_of(kind, worth), number)
                self.assert_same(mirrored_worth(mirrored(kind), mirrored_worth(kind, worth)), worth)
            self.assert_same(worth_of(kind, last // 2), middle(kind))
            self.assert_same(read_kind(kind_text(kind)), kind)
