import copy
import inspect
import re

from tests.cases import WorthCase
from tests.samples import (
    BIT, FULL_PICK, KINDS, OF_500, OF_501, PAIR, RISING, RULES, UNLIKE, changed_signs, deep_rules, deep_things,
    drawn_kinds, drawn_rules, nested, no_kinds, no_rules, shown, wrong_things,
)
from worthkinds.errors import NoKind, NoRule, NoText
from worthkinds.kindtexts import kind_text, read_kind, read_rule, rule_text

WIDEST = ("whole", -20, 20)
WIDE_RULE = ("sum", -50, 50)

# A kind, and how it is written.
WRITTEN_KINDS = [
    (("whole", -3, 5), "-3..5"),
    (BIT, "0..1"),
    (WIDEST, "-20..20"),
    (("whole", -20, -20), "-20..-20"),
    (("whole", 20, 20), "20..20"),
    (("whole", 0, 0), "0..0"),
    (("whole", -10, -1), "-10..-1"),
    (PAIR, "{ab:3 c:20}"),
    (("pick", (("a", 1),)), "{a:1}"),
    (("pick", (("xyz", 10),)), "{xyz:10}"),
    (FULL_PICK, "{d:1 abc:20 a:7 z:2}"),
    (("row", (BIT,)), "(0..1)"),
    (("row", (("whole", -3, 5), ("pick", (("a", 1),)))), "(-3..5 {a:1})"),
    (("row", (PAIR, WIDEST, FULL_PICK)), "({ab:3 c:20} -20..20 {d:1 abc:20 a:7 z:2})"),
    (("many", BIT, 0, 0), "[0..1]0..0"),
    (("many", BIT, 3, 3), "[0..1]3..3"),
    (("many", PAIR, 1, 2), "[{ab:3 c:20}]1..2"),
    (("many", ("row", (BIT, ("whole", 2, 2))), 0, 3), "[(0..1 2..2)]0..3"),
    (("many", ("many", WIDEST, 3, 3), 0, 3), "[[-20..20]3..3]0..3"),
    (("many", ("many", ("whole", -1, 0), 0, 1), 2, 3), "[[-1..0]0..1]2..3"),
    (("row", (("row", (BIT,)),)), "((0..1))"),
    (("row", (("many", PAIR, 0, 1), ("row", (BIT, PAIR)), BIT)), "([{ab:3 c:20}]0..1 (0..1 {ab:3 c:20}) 0..1)"),
    (("row", (("row", (WIDEST,) * 3),) * 3),
     "((-20..20 -20..20 -20..20) (-20..20 -20..20 -20..20) (-20..20 -20..20 -20..20))"),
    (OF_501, "[(1..20 -2..2 0..4)]0..1"),
]

# Texts that write no kind.
NO_KIND_TEXTS = [
    "", " ", "\n", "0", "-", "..", "0..", "..0", "0.1", "0...1", "0..1..2", "0 ..1", "0.. 1", "0 1", "0,1", "0-1",
    "0..1 ", " 0..1", "0..1\n", "\n0..1", "0..1 0..1", "00..1", "0..01", "01..2", "-0..1", "0..-0", "-0..0", "+0..1",
    "0..+1", "+1..2", "--1..1", "- 1..1", "1..0", "5..-3", "-1..-2", "-21..0", "0..21", "-20..21", "-100..0", "0..100",
    "0..1_0", "1_0..20", "0..1.", "0x1..2", "a..b", "True..1", "0..\u0661", "\u0660..1", "0..\u00b2", "\uff10..1",
    "1" * 5000 + "..1", "0.." + "9" * 5000, "whole 0 1", "('whole', 0, 1)",
    "{", "}", "{}", "{ }", "{a}", "{a:}", "{:1}", "{:}", "{a:1", "a:1}", "a:1", "{a:1}}", "{{a:1}", "{{a:1}}",
    "{a:1 }", "{ a:1}", "{a:1  b:2}", "{a:1,b:2}", "{a:1, b:2}", "{a:1b:2}", "{a:1\nb:2}", "{a: 1}", "{a :1}",
    "{a::1}", "{a:1:1}", "{a:01}", "{a:+1}", "{a:-1}", "{a:0}", "{a:-0}", "{a:21}", "{a:100}", "{a:1.0}", "{a:b}",
    "{A:1}", "{Ab:1}", "{abcd:1}", "{a1:1}", "{1:1}", "{1:a}", "{a-b:1}", "{\u00e9:1}", "{a:1 a:1}", "{a:1 a:2}",
    "{a:1 b:1 a:1}", "{a:1 b:2 c:3 d:4 e:5}", "{a:1}{b:2}", "{a:1} {b:2}", "{a:1} ", " {a:1}", "{a:1}\n", "{0..1}",
    "{(a:1)}", "(a:1)", "[a:1]",
    "(", ")", "()", "( )", "(0..1", "0..1)", "(0..1))", "((0..1)", "(0..1 )", "( 0..1)", "(0..1  0..1)", "(0..1,0..1)",
    "(0..1, 0..1)", "(0..1\n0..1)", "(0..1 0..1 0..1 0..1)", "(0..1{a:1})", "(0..10..1)", "(0..1)(0..1)",
    "(0..1) (0..1)", "(0..1)0..1", "(0..1) ", " (0..1)", "(0..1)\n", "(0..1]", "[0..1)", "(0..1}", "(1..0)", "(0..21)",
    "(0..1 ())", "(0..1 1)", "((0..1) 0..1", "(0..1 (0..1)", "(0..1))(0..1)", "(a)",
    "[", "]", "[]", "[]0..1", "[0..1]", "[0..1", "0..1]", "0..1]0..1", "[0..1]0", "[0..1]0..", "[0..1]..1", "[0..1] 0..1",
    "[ 0..1]0..1", "[0..1 ]0..1", "[0..1]0..1 ", " [0..1]0..1", "[0..1]0..1\n", "[0..1]0..4", "[0..1]-1..3",
    "[0..1]4..4", "[0..1]2..1", "[0..1]3..0", "[0..1]00..1", "[0..1]0..01", "[0..1]-0..1", "[0..1]+0..1", "[0..1]0..10",
    "[0..1]]0..1", "[[0..1]0..1", "[[0..1]]0..1", "[0..1 0..1]0..1", "[0..1][0..1]0..1", "[0..1]0..1]0..1", "[a]0..1",
    "[0..21]0..1", "[1..0]0..1", "[0..1]0..1 0..1", "0..1[0..1]0..1", "[0..1]0..1..1", "[0..1](0..1)",
    "(((0..1)))", "[[[0..1]0..1]0..1]0..1", "[(([0..1]0..1))]0..1", "(([{a:1}]0..1))", "((({a:1})))", "([([0..1]0..1)]0..1)",
    "(0..1 (0..1 (0..1 (0..1))))", "[((0..1))]0..1", "rising", "sum 0 1",
    "(" * 5000 + "0..1" + ")" * 5000, "[" * 5000 + "0..1" + "]0..1" * 5000, "(" * 5000, "[" * 5000, "]" * 5000,
    "(" + "0..1 " * 5000 + "0..1)", "{" + "a:1 " * 5000 + "a:1}", " " * 5000,
]

# A rule, and how it is written.
WRITTEN_RULES = [
    (("sum", -3, 5), "sum -3 5"),
    (WIDE_RULE, "sum -50 50"),
    (("sum", 50, -50), "sum 50 -50"),
    (("sum", 0, 0), "sum 0 0"),
    (("sum", 10, 9), "sum 10 9"),
    (("size", 0, 2), "size 0 2"),
    (("size", -50, 50), "size -50 50"),
    (("size", 3, 1), "size 3 1"),
    (("word", "ab"), "word ab"),
    (("word", "a"), "word a"),
    (("word", "xyz"), "word xyz"),
    (("word", "sum"), "word sum"),
    (("word", "no"), "word no"),
    (RISING, "rising"),
    (UNLIKE, "unlike"),
    (("no", RISING), "no(rising)"),
    (("no", WIDE_RULE), "no(sum -50 50)"),
    (("all", RISING, ("word", "a")), "all(rising, word a)"),
    (("some", UNLIKE, ("no", RISING)), "some(unlike, no(rising))"),
    (("some", ("size", 0, 2), ("size", -1, -1)), "some(size 0 2, size -1 -1)"),
    (("all", RISING, RISING), "all(rising, rising)"),
    (("no", ("no", UNLIKE)), "no(no(unlike))"),
    (("no", ("all", ("word", "a"), ("word", "b"))), "no(all(word a, word b))"),
    (("all", ("some", RISING, UNLIKE), ("all", ("sum", 0, 1), ("word", "all"))),
     "all(some(rising, unlike), all(sum 0 1, word all))"),
    (("some", ("no", ("sum", -50, -50)), ("some", UNLIKE, ("size", 50, 50))),
     "some(no(sum -50 -50), some(unlike, size 50 50))"),
]

# Texts that write no rule.
NO_RULE_TEXTS = [
    "", " ", "\n", "a", "sum", "size", "word", "no", "all", "some", "Rising", "RISING", "rise", "risin", "risings",
    "rising ", " rising", "rising\n", "\nrising", "rising rising", "rising 0", "rising()", "(rising)", "rising,", "unlike ",
    "unlik", "unlike unlike", "unlike()", "sum ", "sum 0", "sum 0 ", "sum 0 1 ", " sum 0 1", "sum 0 1\n", "sum 0 1 2",
    "sum  0 1", "sum 0  1", "sum 0\n1", "sum\n0 1", "sum0 1", "sum 01", "sum 0, 1", "sum 0,1", "sum 0..1", "sum(0 1)",
    "sum(0, 1)", "sum 00 1", "sum 0 01", "sum -0 1", "sum 0 -0", "sum +0 1", "sum 0 +1", "sum --1 1", "sum - 1 1",
    "sum -51 0", "sum 0 51", "sum -51 51", "sum 0 100", "sum 0 1.0", "sum 1_0 20", "sum a b", "sum True 1", "Sum 0 1",
    "sum 0 \u0661", "sum \uff10 1", "sum 0 " + "9" * 5000, "sum \u00b2 3",
    "size 0", "size 0 1 2", "size 0 51", "size -51 0", "size -0 1", "size 0  1", "size 00 1", "size +0 1", "sizes 0 1",
    "word ", "word  a", "word a ", " word a", "word a\n", "worda", "word A", "word Ab", "word abcd", "word 1", "word a1",
    "word a b", "word(a)", "word (a)", "word \u00e9", "word 'a'", "word rising", "word", "words a",
    "no", "no ", "no(", "no()", "no( )", "no rising", "no(rising", "norising)", "no(rising))", "no((rising)", "no((rising))",
    "no (rising)", "no( rising)", "no(rising )", "no(rising) ", " no(rising)", "no(rising)\n", "no(rising, unlike)",
    "no(rising,)", "no(rising, )", "no(, rising)", "no[rising]", "no{rising}", "No(rising)", "not(rising)", "no(rising)(",
    "no(rising)no(rising)", "no(rising) no(rising)", "no(a)", "no(sum 0)", "no(sum 0 51)", "no(rising)unlike",
    "all(rising)", "all(rising unlike)", "all(rising,unlike)", "all(rising,  unlike)", "all(rising , unlike)",
    "all( rising, unlike)", "all(rising, unlike )", "all(rising, unlike", "allrising, unlike)", "all rising, unlike",
    "all (rising, unlike)", "all(rising, unlike))", "all((rising, unlike)", "all((rising), unlike)", "all(rising, unlike) ",
    " all(rising, unlike)", "all(rising, unlike)\n", "all(rising,\nunlike)", "all(rising, unlike, rising)", "all(, )",
    "all(rising, )", "all(, unlike)", "all()", "all(rising; unlike)", "All(rising, unlike)", "all(rising)(unlike)",
    "all(rising), unlike", "rising, unlike", "all[rising, unlike]", "all(rising, unlike]", "all(no(rising, unlike)",
    "all(no(rising), unlike", "all(rising, no(unlike)", "all(rising, no unlike)", "all(rising, a)", "all(word a, word A)",
    "some(rising)", "some(rising,unlike)", "some(rising, unlike, rising)", "some()", "some(rising, unlike))", "some(, )",
    "some (rising, unlike)", "somerising, unlike)", "any(rising, unlike)", "or(rising, unlike)", "rising(no, all)",
    "no(no(no(rising)))", "all(rising, no(no(unlike)))", "some(all(no(rising), rising), rising)",
    "no(all(rising, some(rising, unlike)))", "0..1", "{a:1}", "('rising',)",
    "no(" * 5000 + "rising" + ")" * 5000, "no(" * 5000, "(" * 5000, ")" * 5000, "all(rising, " * 5000, " " * 5000,
    "all(" + "rising, " * 5000 + "rising)", "sum " + "0 " * 5000,
]

WIDE_NUMBER = "(?:0|-?(?:[1-9]|1[0-9]|20))"
CHOICE = "[a-z]{1,3}:(?:[1-9]|1[0-9]|20)"
RULE_NUMBER = "(?:0|-?(?:[1-9]|[1-4][0-9]|50))"


def kind_form(levels):
    """The form of all texts of kinds so deep; which bound is greater, and which words are equal, it does not see."""
    single = rf"{WIDE_NUMBER}\.\.{WIDE_NUMBER}|\{{{CHOICE}(?: {CHOICE}){{0,3}}\}}"
    if levels == 1:
        return f"(?:{single})"
    part = kind_form(levels - 1)
    return rf"(?:{single}|\({part}(?: {part}){{0,2}}\)|\[{part}\][0-3]\.\.[0-3])"


def rule_form(levels):
    single = f"(?:sum|size) {RULE_NUMBER} {RULE_NUMBER}|word [a-z]{{1,3}}|rising|unlike"
    if levels == 1:
        return f"(?:{single})"
    part = rule_form(levels - 1)
    return rf"(?:{single}|no\({part}\)|(?:all|some)\({part}, {part}\))"


KIND_FORM = re.compile(kind_form(3))
RULE_FORM = re.compile(rule_form(3))


def writes_a_kind(text):
    if not KIND_FORM.fullmatch(text):
        return False
    spans = re.findall(r"(-?[0-9]+)\.\.(-?[0-9]+)", text)
    picks = [re.findall("[a-z]+", pick) for pick in re.findall(r"\{.*?\}", text)]
    return all(int(low) <= int(high) for low, high in spans) and all(len(set(words)) == len(words) for words in picks)


def writes_a_rule(text):
    return RULE_FORM.fullmatch(text) is not None


def plain_kind_text(kind):
    if kind[0] == "whole":
        return "%d..%d" % kind[1:]
    if kind[0] == "pick":
        return "{%s}" % " ".join("%s:%d" % choice for choice in kind[1])
    if kind[0] == "row":
        return "(%s)" % " ".join(map(plain_kind_text, kind[1]))
    return "[%s]%d..%d" % (plain_kind_text(kind[1]), kind[2], kind[3])


def plain_rule_text(rule):
    forms = {"sum": "sum %d %d", "size": "size %d %d", "word": "word %s", "rising": "rising", "unlike": "unlike",
             "no": "no(%s)", "all": "all(%s, %s)", "some": "some(%s, %s)"}
    return forms[rule[0]] % tuple(plain_rule_text(part) if isinstance(part, tuple) else part for part in rule[1:])


class KindTextTest(WorthCase):
    def test_interface(self):
        for function in (kind_text, read_kind, rule_text, read_rule):
            self.assertEqual(len(inspect.signature(function).parameters), 1)

    def test_written(self):
        for kind, text in WRITTEN_KINDS:
            with self.subTest(kind=kind):
                self.assert_same(kind_text(kind), text)
                self.assertTrue(writes_a_kind(text))

    def test_all_sorts(self):
        for kind in KINDS + [OF_500, OF_501] + drawn_kinds(400):
            with self.subTest(kind=kind):
                self.assert_same(kind_text(kind), plain_kind_text(kind))

    def test_unlike_kinds_are_written_unlike(self):
        kinds = {repr(kind): kind for kind in KINDS + drawn_kinds(1500)}.values()
        self.assertEqual(len({kind_text(kind) for kind in kinds}), len(kinds))

    def test_no_kind(self):
        for thing in no_kinds() + ["0..1", "{a:1}"]:
            self.assert_refused(NoKind, kind_text, thing)


class ReadKindTest(WorthCase):
    def test_written(self):
        for kind, text in WRITTEN_KINDS:
            with self.subTest(text=text):
                self.assert_same(read_kind(text), kind)

    def test_each_kind_reads_back(self):
        for kind in KINDS + [OF_500, OF_501] + drawn_kinds(1500):
            with self.subTest(kind=kind):
                self.assert_same(read_kind(kind_text(kind)), kind)
                self.assert_same(read_kind(plain_kind_text(kind)), kind)

    def test_all_bounds(self):
        for low in range(-25, 26):
            for high in range(-25, 26):
                text = f"{low}..{high}"
                if -20 <= low <= high <= 20:
                    self.assert_same(read_kind(text), ("whole", low, high))
                else:
                    self.assert_refused(NoText, read_kind, text)
                many = "[0..1]" + text
                if 0 <= low <= high <= 3:
                    self.assert_same(read_kind(many), ("many", BIT, low, high))
                else:
                    self.assert_refused(NoText, read_kind, many)
        for weight in range(-25, 26):
            if 1 <= weight <= 20:
                self.assert_same(read_kind("{a:%d}" % weight), ("pick", (("a", weight),)))
            else:
                self.assert_refused(NoText, read_kind, "{a:%d}" % weight)

    def test_no_text(self):
        for text in NO_KIND_TEXTS:
            self.assert_refused(NoText, read_kind, text)

    def test_each_sign_changed(self):
        kinds = KINDS + [kind for kind in drawn_kinds(60) if kind[0] in ("row", "many")][:10]
        for text in map(plain_kind_text, kinds):
            for other in changed_signs(text, "(){}[] \n-+0129abz.:,~"):
                with self.subTest(text=other):
                    if writes_a_kind(other):
                        self.assert_same(plain_kind_text(read_kind(other)), other)
                    else:
                        self.assertRaises(NoText, read_kind, other)

    def test_depth(self):
        for wrap in (lambda text: f"({text})", lambda text: f"[{text}]0..1", lambda text: f"(0..1 {text})"):
            for leaf in ("0..1", "{a:1}"):
                self.assertEqual(read_kind(nested(leaf, 2, wrap))[0] in ("row", "many"), True)
                for depth in (3, 4, 10, 3000):
                    self.assert_refused(NoText, read_kind, nested(leaf, depth, wrap))

    def test_things_that_are_no_text(self):
        for thing in wrong_things() + KINDS + [0, (), ["0..1"], ("0..1",), b"0..1"]:
            self.assert_refused(NoText, read_kind, thing)


class RuleTextTest(WorthCase):
    def test_written(self):
        for rule, text in WRITTEN_RULES:
            with self.subTest(rule=rule):
                self.assert_same(rule_text(rule), text)
                self.assertTrue(writes_a_rule(text))

    def test_all_sorts(self):
        for rule in RULES + drawn_rules(400):
            with self.subTest(rule=rule):
                self.assert_same(rule_text(rule), plain_rule_text(rule))

    def test_unlike_rules_are_written_unlike(self):
        rules = {repr(rule): rule for rule in RULES + drawn_rules(1500)}.values()
        self.assertEqual(len({rule_text(rule) for rule in rules}), len(rules))

    def test_no_rule(self):
        for thing in no_rules() + ["rising", "sum 0 1"]:
            self.assert_refused(NoRule, rule_text, thing)


class ReadRuleTest(WorthCase):
    def test_written(self):
        for rule, text in WRITTEN_RULES:
            with self.subTest(text=text):
                self.assert_same(read_rule(text), rule)

    def test_each_rule_reads_back(self):
        for rule in RULES + drawn_rules(1500):
            with self.subTest(rule=rule):
                self.assert_same(read_rule(rule_text(rule)), rule)
                self.assert_same(read_rule(plain_rule_text(rule)), rule)

    def test_all_bounds(self):
        for sort in ("sum", "size"):
            for bound in range(-60, 61):
                for text, rule in [(f"{sort} {bound} 3", (sort, bound, 3)), (f"{sort} 3 {bound}", (sort, 3, bound))]:
                    if -50 <= bound <= 50:
                        self.assert_same(read_rule(text), rule)
                    else:
                        self.assert_refused(NoText, read_rule, text)

    def test_no_text(self):
        for text in NO_RULE_TEXTS:
            self.assert_refused(NoText, read_rule, text)

    def test_each_sign_changed(self):
        for text in map(plain_rule_text, RULES + drawn_rules(20)):
            for other in changed_signs(text, "()[] \n-+0159abz.,~"):
                with self.subTest(text=other):
                    if writes_a_rule(other):
                        self.assert_same(plain_rule_text(read_rule(other)), other)
                    else:
                        self.assertRaises(NoText, read_rule, other)

    def test_depth(self):
        wraps = (lambda text: f"no({text})", lambda text: f"all({text}, unlike)", lambda text: f"some(unlike, {text})")
        for wrap in wraps:
            for leaf in ("rising", "word a", "sum 0 1"):
                self.assertIn(read_rule(nested(leaf, 2, wrap))[0], ("no", "all", "some"))
                for depth in (3, 4, 10, 3000):
                    self.assert_refused(NoText, read_rule, nested(leaf, depth, wrap))

    def test_things_that_are_no_text(self):
        for thing in wrong_things() + deep_rules() + RULES + [0, (), ["rising"], b"rising"]:
            self.assert_refused(NoText, read_rule, thing)


class HandedInTest(WorthCase):
    def test_what_is_handed_in_stays(self):
        for thing in deep_rules() + deep_things() + [[0, 1]]:
            before = copy.deepcopy(thing)
            with self.subTest(thing=shown(thing)):
                self.assertRaises(NoKind, kind_text, thing)
                self.assertRaises(NoRule, rule_text, thing)
                self.assertRaises(NoText, read_kind, thing)
                self.assertRaises(NoText, read_rule, thing)
                self.assertEqual(thing, before)
