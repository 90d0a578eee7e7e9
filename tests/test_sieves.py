import copy
import fractions
import inspect
import random

from tests.cases import WorthCase
from tests.samples import (
    BIT, FULL_PICK, KINDS, OF_500, OF_501, PAIR, RISING, RULES, UNLIKE, changed_signs, deep_rules, deep_things,
    drawn_rules, listed, no_kinds, no_rules, plainly_keeps, shown, small_kinds, wrong_things,
)
from worthkinds.errors import NoBack, NoKind, NoRule, NoText, TooMany
from worthkinds.kindtexts import kind_text, read_kind, read_rule, rule_text
from worthkinds.shares import share_of
from worthkinds.sieves import Sieve, best_rule, read_sieve, sieve_text

NEVER = ("sum", 1, 0)
ALWAYS = ("no", NEVER)
BITS = ("many", BIT, 0, 2)
NUMBERS = ("whole", 0, 9)
HUGE = ("many", ("many", ("whole", -20, 20), 0, 3), 0, 3)
TOO_MANY = [OF_501, ("row", (("whole", -20, 20),) * 2), HUGE]


def told(sieve):
    """All that a sieve tells without being changed."""
    return (sieve.left(), sieve.worths(), sieve.part(), sieve.base(), sieve.steps(), sieve.counts())


def plainly_left(kind, steps):
    return [worth for worth in listed(kind)
            if all(plainly_keeps(rule, worth) == (word == "keep") for word, rule in steps)]


def plain_part(kind, worths):
    shares = sum((fractions.Fraction(*share_of(kind, worth)) for worth in worths), fractions.Fraction(0))
    return (shares.numerator, shares.denominator)


def behind(kind, steps):
    sieve = Sieve(kind)
    for word, rule in steps:
        getattr(sieve, word)(rule)
    return sieve


class SieveTest(WorthCase):
    def test_interface(self):
        sieve = Sieve(BIT)
        arguments = {"keep": 1, "bar": 1, "left": 0, "worths": 0, "part": 0, "base": 0, "steps": 0, "back": 0,
                     "forth": 0, "counts": 0, "twin": 0}
        for name, count in arguments.items():
            self.assertEqual(len(inspect.signature(getattr(sieve, name)).parameters), count)
        for function, count in ((Sieve, 1), (best_rule, 2), (sieve_text, 1), (read_sieve, 1)):
            self.assertEqual(len(inspect.signature(function).parameters), count)

    def test_a_new_one(self):
        for kind in small_kinds() + [OF_500]:
            with self.subTest(kind=kind):
                self.assert_same(told(Sieve(kind)), (len(listed(kind)), listed(kind), (1, 1), kind, [], (0, 0)))

    def test_written(self):
        sieve = Sieve(NUMBERS)
        self.assert_same(sieve.keep(("sum", 2, 7)), 4)
        self.assert_same(sieve.worths(), [2, 3, 4, 5, 6, 7])
        self.assert_same(sieve.part(), (3, 5))
        self.assert_same(sieve.bar(("sum", 4, 5)), 2)
        self.assert_same(sieve.worths(), [2, 3, 6, 7])
        self.assert_same(sieve.left(), 4)
        self.assert_same(sieve.part(), (2, 5))
        self.assert_same(sieve.steps(), [("keep", ("sum", 2, 7)), ("bar", ("sum", 4, 5))])
        self.assert_same(sieve.counts(), (2, 0))
        self.assert_same(sieve.keep(("sum", -50, 50)), 0)
        self.assert_same(sieve.bar(("sum", 50, 50)), 0)
        self.assert_same(sieve.left(), 4)
        self.assert_same(sieve.counts(), (4, 0))
        self.assert_same(sieve.base(), NUMBERS)

    def test_shares_of_words(self):
        sieve = Sieve(FULL_PICK)
        self.assert_same(sieve.bar(("word", "abc")), 1)
        self.assert_same(sieve.worths(), ["d", "a", "z"])
        self.assert_same(sieve.part(), (1, 3))
        sieve.keep(("word", "z"))
        self.assert_same(sieve.part(), (1, 15))

    def test_all_and_none(self):
        for kind in KINDS + [OF_500]:
            count = len(listed(kind))
            for word, rule, gone in [("keep", ALWAYS, 0), ("bar", NEVER, 0), ("keep", NEVER, count),
                                     ("bar", ALWAYS, count)]:
                sieve = Sieve(kind)
                with self.subTest(kind=kind, word=word):
                    self.assert_same(getattr(sieve, word)(rule), gone)
                    worths = [] if gone else listed(kind)
                    part = (0, 1) if gone else (1, 1)
                    self.assert_same(told(sieve), (count - gone, worths, part, kind, [(word, rule)], (1, 0)))
                    self.assert_same(sieve.keep(NEVER), count - gone)
                    self.assert_same(sieve.bar(RISING), 0)
                    self.assert_same((sieve.left(), sieve.worths(), sieve.part()), (0, [], (0, 1)))

    def test_as_the_document_tells(self):
        rules = RULES + drawn_rules(60)
        for place, kind in enumerate(small_kinds() + [OF_500]):
            sieve = Sieve(kind)
            steps = []
            for number, rule in enumerate(rules[place % 11::11]):
                word = ("keep", "bar")[(place + number) % 2]
                before = len(plainly_left(kind, steps))
                steps.append((word, rule))
                worths = plainly_left(kind, steps)
                with self.subTest(kind=kind, steps=steps):
                    self.assert_same(getattr(sieve, word)(rule), before - len(worths))
                    expected = (len(worths), worths, plain_part(kind, worths), kind, steps, (len(steps), 0))
                    self.assert_same(told(sieve), expected)

    def test_what_a_rule_keeps_and_what_barring_it_keeps_are_all(self):
        rules = RULES + drawn_rules(60)
        for place, kind in enumerate(small_kinds()):
            for rule in rules[place % 13::13]:
                one = Sieve(kind)
                other = one.twin()
                with self.subTest(kind=kind, rule=rule):
                    self.assertEqual(one.keep(rule) + other.bar(rule), len(listed(kind)))
                    worths = one.worths() + other.worths()
                    self.assert_same(sorted(worths, key=listed(kind).index), listed(kind))
                    parts = [fractions.Fraction(*sieve.part()) for sieve in (one, other)]
                    self.assertEqual(sum(parts), 1)

    def test_new_lists_each_time(self):
        sieve = behind(BITS, [("keep", RISING)])
        before = told(sieve)
        sieve.worths().clear()
        sieve.steps().append(("bar", UNLIKE))
        sieve.steps().clear()
        self.assert_same(told(sieve), before)
        sieve.back()
        sieve.forth()
        self.assert_same(told(sieve), before)
        first = Sieve(BITS).worths()
        first.clear()
        self.assert_same(Sieve(BITS).worths(), listed(BITS))

    def test_no_rule_changes_nothing(self):
        for steps, backs in (([], 0), ([("keep", RISING)], 0), ([("keep", RISING), ("bar", UNLIKE)], 1),
                             ([("bar", RISING), ("keep", UNLIKE)], 2)):
            sieve = behind(BITS, steps)
            for _ in range(backs):
                sieve.back()
            before = told(sieve)
            for thing in no_rules():
                self.assert_refused(NoRule, sieve.keep, thing)
                self.assert_refused(NoRule, sieve.bar, thing)
                self.assertEqual(told(sieve), before)
            for _ in range(backs):
                sieve.forth()
            self.assert_same(told(sieve), told(behind(BITS, steps)))

    def test_no_kind_and_too_many(self):
        for thing in no_kinds():
            self.assert_refused(NoKind, Sieve, thing)
        for kind in TOO_MANY:
            self.assert_refused(TooMany, Sieve, kind)
        self.assert_same(Sieve(OF_500).left(), 500)


class BackAndForthTest(WorthCase):
    def test_written(self):
        sieve = Sieve(NUMBERS)
        self.assertRaises(NoBack, sieve.back)
        self.assertRaises(NoBack, sieve.forth)
        sieve.keep(("sum", 2, 7))
        self.assertRaises(NoBack, sieve.forth)
        sieve.bar(("sum", 4, 5))
        self.assert_same(sieve.counts(), (2, 0))
        self.assert_same(sieve.back(), "bar")
        self.assert_same(sieve.counts(), (1, 1))
        self.assert_same(sieve.worths(), [2, 3, 4, 5, 6, 7])
        self.assert_same(sieve.steps(), [("keep", ("sum", 2, 7))])
        self.assert_same(sieve.back(), "keep")
        self.assert_same(sieve.counts(), (0, 2))
        self.assert_same(sieve.left(), 10)
        self.assert_same(sieve.part(), (1, 1))
        self.assertRaises(NoBack, sieve.back)
        self.assert_same(sieve.forth(), "keep")
        self.assert_same(sieve.counts(), (1, 1))
        self.assert_same(sieve.left(), 6)
        self.assert_same(sieve.forth(), "bar")
        self.assert_same(sieve.worths(), [2, 3, 6, 7])
        self.assertRaises(NoBack, sieve.forth)
        self.assert_same(sieve.counts(), (2, 0))

    def test_forth_behind_another_step(self):
        for word in ("keep", "bar"):
            for rule in (RISING, ALWAYS, NEVER):
                sieve = behind(BITS, [("keep", UNLIKE), ("bar", RISING)])
                sieve.back()
                getattr(sieve, word)(rule)
                self.assert_same(sieve.counts(), (2, 0))
                self.assertRaises(NoBack, sieve.forth)
                self.assert_same(told(sieve), told(behind(BITS, [("keep", UNLIKE), (word, rule)])))
                self.assert_same(sieve.back(), word)
                self.assert_same(sieve.forth(), word)
                self.assertRaises(NoBack, sieve.forth)

    def test_the_same_step_once_more_is_another_step(self):
        sieve = behind(BITS, [("keep", UNLIKE), ("bar", RISING)])
        sieve.back()
        sieve.back()
        sieve.keep(UNLIKE)
        self.assert_same(sieve.counts(), (1, 0))
        self.assertRaises(NoBack, sieve.forth)

    def test_what_is_refused_changes_nothing(self):
        for steps in ([], [("keep", RISING), ("bar", UNLIKE)]):
            sieve = behind(BITS, steps)
            before = told(sieve)
            self.assertRaises(NoBack, sieve.forth)
            self.assert_same(told(sieve), before)
            for _ in steps:
                sieve.back()
            before = told(sieve)
            self.assertRaises(NoBack, sieve.back)
            self.assert_same(told(sieve), before)
            self.assert_same(before[5], (0, len(steps)))

    def test_all_the_way_back_and_forth(self):
        rules = RULES + drawn_rules(60)
        for place, kind in enumerate(small_kinds()):
            steps = [(("keep", "bar")[number % 2], rule) for number, rule in enumerate(rules[place % 15::15])]
            sieve = behind(kind, steps)
            with self.subTest(kind=kind, steps=steps):
                for number in range(len(steps), 0, -1):
                    self.assert_same(sieve.counts(), (number, len(steps) - number))
                    self.assert_same(sieve.worths(), plainly_left(kind, steps[:number]))
                    self.assert_same(sieve.back(), steps[number - 1][0])
                self.assert_same(sieve.worths(), listed(kind))
                self.assert_same(sieve.steps(), [])
                for number in range(len(steps)):
                    self.assert_same(sieve.counts(), (number, len(steps) - number))
                    self.assert_same(sieve.forth(), steps[number][0])
                    self.assert_same(sieve.worths(), plainly_left(kind, steps[:number + 1]))
                self.assert_same(told(sieve), told(behind(kind, steps)))

    def test_drawn_walks(self):
        source = random.Random(10)
        rules = RULES + drawn_rules(60)
        for kind in KINDS:
            sieves = [(Sieve(kind), [], [])]
            for _ in range(60):
                sieve, done, undone = source.choice(sieves)
                word = source.choice(["keep", "bar", "back", "back", "forth", "twin"])
                if word in ("keep", "bar"):
                    rule = source.choice(rules)
                    getattr(sieve, word)(rule)
                    done.append((word, rule))
                    undone.clear()
                elif word == "twin":
                    sieves.append((sieve.twin(), list(done), list(undone)))
                else:
                    source_of_steps, goal = (done, undone) if word == "back" else (undone, done)
                    if source_of_steps:
                        goal.append(source_of_steps.pop())
                        self.assert_same(getattr(sieve, word)(), goal[-1][0])
                    else:
                        self.assertRaises(NoBack, getattr(sieve, word))
                for other, steps, taken_back in sieves:
                    worths = plainly_left(kind, steps)
                    self.assert_same((other.left(), other.worths()), (len(worths), worths))
                    self.assert_same((other.steps(), other.counts()), (steps, (len(steps), len(taken_back))))
                sieves = sieves[-5:]


class TwinTest(WorthCase):
    def test_a_twin_is_as_this_one(self):
        for steps, backs in (([], 0), ([("keep", UNLIKE)], 0), ([("keep", UNLIKE)], 1),
                             ([("keep", UNLIKE), ("bar", RISING), ("keep", ("sum", 1, 1))], 2)):
            sieve = behind(BITS, steps)
            for _ in range(backs):
                sieve.back()
            twin = sieve.twin()
            self.assertIsInstance(twin, Sieve)
            self.assertIsNot(twin, sieve)
            self.assert_same(told(twin), told(sieve))
            for _ in range(backs):
                self.assert_same(twin.forth(), sieve.forth())
                self.assert_same(told(twin), told(sieve))
            for _ in steps:
                self.assert_same(twin.back(), sieve.back())
                self.assert_same(told(twin), told(sieve))
            self.assertRaises(NoBack, twin.back)

    def test_each_goes_by_itself(self):
        for act in (lambda sieve: sieve.keep(("size", 1, 1)), lambda sieve: sieve.bar(("size", 1, 1)),
                    lambda sieve: sieve.back(), lambda sieve: sieve.forth()):
            sieve = behind(BITS, [("keep", UNLIKE), ("bar", ("sum", 0, 0))])
            sieve.back()
            twin = sieve.twin()
            before = told(sieve)
            act(twin)
            self.assertNotEqual(told(twin), before)
            self.assert_same(told(sieve), before)
            self.assert_same(sieve.twin().forth(), "bar")
            ahead = told(twin)
            twin = sieve.twin()
            act(sieve)
            self.assert_same(told(sieve), ahead)
            self.assert_same(told(twin), before)
            self.assert_same(twin.forth(), "bar")
            self.assert_same(told(twin), told(behind(BITS, [("keep", UNLIKE), ("bar", ("sum", 0, 0))])))

    def test_two_sieves_of_one_kind(self):
        one = Sieve(BITS)
        other = Sieve(BITS)
        one.keep(NEVER)
        self.assert_same(told(other), told(Sieve(BITS)))
        self.assertRaises(NoBack, other.back)


class BestRuleTest(WorthCase):
    def test_written(self):
        cases = [
            (BIT, [], None),
            (BIT, [RISING], 0),
            (BIT, [NEVER, ALWAYS], 0),
            (BIT, [ALWAYS, ("sum", 1, 1), ("sum", 0, 0)], 1),
            (NUMBERS, [("sum", 0, 0), ("sum", 0, 3), ("sum", 0, 5), ("sum", 0, 8)], 1),
            (NUMBERS, [("sum", 0, 0), ("sum", 0, 4), ("sum", 0, 5), ("sum", 5, 9)], 1),
            (NUMBERS, [("sum", 0, 2), ("sum", 0, 6), ("no", ("sum", 0, 2))], 0),
            (NUMBERS, [NEVER, ("sum", 0, 8), ("sum", 9, 9)], 1),
            (BITS, [RISING, UNLIKE, ("size", 2, 2)], 2),
            (BITS, [("size", 0, 1), ("size", 2, 2)], 0),
            (BITS, [RISING, RISING], 0),
        ]
        for kind, rules, number in cases:
            with self.subTest(kind=kind, rules=rules):
                self.assert_same(best_rule(kind, rules), number)
                self.assert_same(best_rule(kind, tuple(rules)), number)

    def test_as_the_document_tells(self):
        rules = RULES + drawn_rules(60)
        for place, kind in enumerate(small_kinds() + [OF_500]):
            chosen = rules[place % 9::9]
            kept = [len(plainly_left(kind, [("keep", rule)])) for rule in chosen]
            broken = [len(plainly_left(kind, [("bar", rule)])) for rule in chosen]
            best = min((max(pair), number) for number, pair in enumerate(zip(kept, broken)))
            with self.subTest(kind=kind, rules=chosen):
                self.assert_same(best_rule(kind, chosen), best[1])
                self.assert_same(best_rule(kind, tuple(chosen)), best[1])
                self.assertIsNone(best_rule(kind, []))
                self.assertIsNone(best_rule(kind, ()))

    def test_no_rule_comes_first(self):
        for thing in no_rules():
            for kind in [BIT, HUGE, None, ("whole", 1, 0)]:
                self.assert_refused(NoRule, best_rule, kind, [thing])
                self.assert_refused(NoRule, best_rule, kind, (RISING, thing))
                self.assert_refused(NoRule, best_rule, kind, [thing, RISING, UNLIKE])

    def test_no_kind_and_too_many(self):
        for rules in ([], (), [RISING], (NEVER, ALWAYS)):
            for thing in no_kinds():
                self.assert_refused(NoKind, best_rule, thing, rules)
            for kind in TOO_MANY:
                self.assert_refused(TooMany, best_rule, kind, rules)
        self.assert_same(best_rule(OF_500, [RISING]), 0)

    def test_a_list_of_rules_stays(self):
        rules = [RISING, UNLIKE, ("no", RISING)]
        best_rule(BITS, rules)
        self.assert_same(rules, [RISING, UNLIKE, ("no", RISING)])


# A kind, steps, and how a sieve of the kind behind these steps is written.
WRITTEN_SIEVES = [
    (BIT, [], "0..1\n"),
    (PAIR, [("keep", RISING)], "{ab:3 c:20}\nkeep rising\n"),
    (BITS, [("keep", UNLIKE), ("bar", ("sum", -3, 5))], "[0..1]0..2\nkeep unlike\nbar sum -3 5\n"),
    (("row", (BIT, PAIR)), [("bar", ("all", RISING, ("word", "a"))), ("keep", ("no", ("size", 0, 2)))],
     "(0..1 {ab:3 c:20})\nbar all(rising, word a)\nkeep no(size 0 2)\n"),
    (BIT, [("keep", RISING), ("keep", RISING)], "0..1\nkeep rising\nkeep rising\n"),
    (OF_500, [("bar", NEVER)], "(1..20 -2..2 0..4)\nbar sum 1 0\n"),
]

NO_SIEVE_TEXTS = [
    "", "\n", "\n\n", " ", "0..1", "0..1\n\n", "\n0..1\n", "0..1 \n", " 0..1\n", "1..0\n", "0..21\n", "0\n", "0..1\r\n",
    "0..1\x0b", "0..1\u2028", "0..1\nkeep rising", "keep rising\n", "keep rising\n0..1\n", "0..1\n0..1\n",
    "0..1\nkeep rising\n\n", "0..1\n\nkeep rising\n", "0..1\nkeep rising\n0..1\n", "0..1\nrising\n", "0..1\nkeep\n",
    "0..1\nkeep \n", "0..1\nbar\n", "0..1\nkeep  rising\n", "0..1\n keep rising\n", "0..1\nkeep rising \n",
    "0..1\nkeeprising\n", "0..1\nKeep rising\n", "0..1\nBAR rising\n", "0..1\nkeeps rising\n", "0..1\nbars rising\n",
    "0..1\ndrop rising\n", "0..1\nback\n", "0..1\nforth\n", "0..1\nback rising\n", "0..1\nkeep bar rising\n",
    "0..1\nkeep(rising)\n", "0..1\nkeep sum 0\n", "0..1\nkeep sum 0 51\n", "0..1\nkeep word A\n", "0..1\nbar no(rising\n",
    "0..1\nbar no(no(no(rising)))\n", "0..1\nkeep rising\nbar\n", "0..1\nkeep rising\nkeep x\n", "0..1\nkeep ris\ning\n",
    "0..1\rkeep rising\n", "0..1 keep rising\n", "0..1\nkeep rising bar unlike\n", "0..1\nkeep rising\r\n",
    "0..1\nkeep rising\x0bbar unlike\n", "0..1\nkeep rising\n\x00", "0..1\nkeep rising\n ", "(0..1\nkeep rising)\n",
    "((((0..1))))\n", "(" * 3000 + "\n", "\n" * 3000, "0..1\n" + "keep " * 3000 + "\n", "0..1\n" + "no(" * 3000 + "\n",
]


class SieveTextTest(WorthCase):
    def test_written(self):
        for kind, steps, text in WRITTEN_SIEVES:
            with self.subTest(text=text):
                self.assert_same(sieve_text(behind(kind, steps)), text)
                self.assert_same(told(read_sieve(text)), told(behind(kind, steps)))

    def test_steps_taken_back_are_not_written(self):
        sieve = behind(BITS, [("keep", UNLIKE), ("bar", RISING), ("keep", ("word", "a"))])
        texts = ["[0..1]0..2\n", "keep unlike\n", "bar rising\n", "keep word a\n"]
        for number in (4, 3, 2):
            self.assert_same(sieve_text(sieve), "".join(texts[:number]))
            sieve.back()
        self.assert_same(sieve_text(sieve), texts[0])
        sieve.forth()
        self.assert_same(sieve_text(sieve), "".join(texts[:2]))
        sieve.bar(UNLIKE)
        self.assert_same(sieve_text(sieve), "".join(texts[:2]) + "bar unlike\n")
        self.assert_same(sieve_text(sieve.twin()), sieve_text(sieve))

    def test_a_text_changes_nothing(self):
        sieve = behind(BITS, [("keep", UNLIKE), ("bar", RISING)])
        sieve.back()
        before = told(sieve)
        sieve_text(sieve)
        self.assert_same(told(sieve), before)
        self.assert_same(sieve.forth(), "bar")

    def test_read_sieves_are_new_ones(self):
        text = "[0..1]0..2\nkeep unlike\nbar rising\n"
        one = read_sieve(text)
        other = read_sieve(text)
        self.assertIsInstance(one, Sieve)
        self.assert_same(one.counts(), (2, 0))
        self.assertRaises(NoBack, one.forth)
        self.assert_same(one.back(), "bar")
        self.assert_same(one.back(), "keep")
        self.assert_same(one.worths(), listed(BITS))
        self.assertRaises(NoBack, one.back)
        self.assert_same(told(other), told(behind(BITS, [("keep", UNLIKE), ("bar", RISING)])))
        self.assert_same(told(read_sieve(sieve_text(one))), told(Sieve(BITS)))

    def test_each_reads_back(self):
        rules = RULES + drawn_rules(60)
        for place, kind in enumerate(small_kinds() + [OF_500]):
            steps = [(("keep", "bar")[(place + number) % 2], rule) for number, rule in enumerate(rules[place % 17::17])]
            lines = [kind_text(kind)] + [f"{word} {rule_text(rule)}" for word, rule in steps]
            with self.subTest(kind=kind, steps=steps):
                sieve = behind(kind, steps)
                self.assert_same(sieve_text(sieve), "".join(line + "\n" for line in lines))
                self.assert_same(told(read_sieve(sieve_text(sieve))), told(sieve))

    def test_no_text(self):
        for text in NO_SIEVE_TEXTS:
            self.assert_refused(NoText, read_sieve, text)

    def test_lines_too_much_too_little_and_exchanged(self):
        lines = ["[0..1]0..2\n", "keep unlike\n", "bar sum 0 1\n"]
        self.assert_same(sieve_text(read_sieve("".join(lines))), "".join(lines))
        for place in range(4):
            for more in ("\n", "[0..1]0..2\n", "keep\n", "unlike\n", " \n", "#\n"):
                self.assert_refused(NoText, read_sieve, "".join(lines[:place] + [more] + lines[place:]))
        self.assert_refused(NoText, read_sieve, "".join(lines[1:]))
        self.assert_refused(NoText, read_sieve, lines[1] + lines[0] + lines[2])
        self.assert_refused(NoText, read_sieve, "".join(lines[::-1]))
        self.assert_same(read_sieve(lines[0] + lines[2] + lines[1]).steps(), [("bar", ("sum", 0, 1)), ("keep", UNLIKE)])

    def test_kinds_of_more_than_500_worths(self):
        self.assert_same(read_sieve(kind_text(OF_500) + "\n").left(), 500)
        for kind in TOO_MANY:
            self.assert_refused(NoText, read_sieve, kind_text(kind) + "\n")
            self.assert_refused(NoText, read_sieve, kind_text(kind) + "\nkeep rising\n")
            self.assert_refused(NoText, read_sieve, kind_text(kind) + "\nkeep\n")

    def writes_a_sieve(self, text):
        """The steps, if each line reads as it should; None otherwise."""
        lines = text.split("\n")
        if lines.pop() != "" or not lines:
            return None
        try:
            kind = read_kind(lines[0])
            steps = [(line.split(" ")[0], read_rule(line[line.index(" ") + 1:])) for line in lines[1:]]
        except ValueError:
            return None
        if len(listed(kind)) > 500 or any(word not in ("keep", "bar") for word, _ in steps):
            return None
        return steps

    def test_each_sign_changed(self):
        for kind, steps, text in WRITTEN_SIEVES:
            for other in changed_signs(text, "(){}[] \n-019akb.:,~"):
                steps = self.writes_a_sieve(other)
                with self.subTest(text=other):
                    if steps is None:
                        self.assertRaises(NoText, read_sieve, other)
                    else:
                        self.assert_same(read_sieve(other).steps(), steps)
                        self.assert_same(sieve_text(read_sieve(other)), other)

    def test_things_that_are_no_text(self):
        for thing in wrong_things() + KINDS + RULES + [0, (), ["0..1\n"], b"0..1\n", Sieve(BIT)]:
            self.assert_refused(NoText, read_sieve, thing)


class HandedInTest(WorthCase):
    def test_what_is_handed_in_stays(self):
        sieve = Sieve(BITS)
        for thing in deep_rules() + deep_things() + [[0, 1]]:
            rules = [RISING, thing]
            before = copy.deepcopy(rules)
            with self.subTest(thing=shown(thing)):
                self.assertRaises(NoKind, Sieve, thing)
                self.assertRaises(NoRule, sieve.keep, thing)
                self.assertRaises(NoRule, sieve.bar, thing)
                self.assertRaises(NoRule, best_rule, BIT, rules)
                self.assertRaises(NoKind, best_rule, thing, rules[:1])
                self.assertRaises(NoText, read_sieve, thing)
                self.assertEqual(rules, before)
        self.assert_same(told(sieve), told(Sieve(BITS)))
