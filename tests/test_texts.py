import copy
import inspect

from tests.cases import WorthCase
from tests.samples import (
    BIT, FULL_PICK, KINDS, PAIR, changed_at_each_place, changed_lists, changed_signs, deep_things, listed, no_kinds,
    shown, small_kinds, wrong_things,
)
from worthkinds.errors import NoKind, NoText, NoWorth
from worthkinds.texts import read_worth, worth_text

WIDEST = ("whole", -20, 20)
TUPLES = ("many", ("many", WIDEST, 0, 3), 0, 3)
MIXED = ("row", (WIDEST, ("row", (PAIR, WIDEST)), ("many", BIT, 0, 2)))

# A kind, a worth, and how it is written.
WRITTEN = [
    (WIDEST, 0, "0"),
    (WIDEST, 7, "7"),
    (WIDEST, 10, "10"),
    (WIDEST, 20, "20"),
    (WIDEST, -1, "-1"),
    (WIDEST, -10, "-10"),
    (WIDEST, -20, "-20"),
    (PAIR, "ab", "ab"),
    (PAIR, "c", "c"),
    (FULL_PICK, "abc", "abc"),
    (("row", (BIT,)), (0,), "(0)"),
    (("row", (PAIR, WIDEST)), ("ab", -1), "(ab -1)"),
    (("row", (WIDEST, PAIR, WIDEST)), (-12, "c", 12), "(-12 c 12)"),
    (("many", BIT, 0, 3), (), "()"),
    (("many", BIT, 0, 3), (1,), "(1)"),
    (("many", BIT, 0, 3), (1, 0, 1), "(1 0 1)"),
    (("many", PAIR, 2, 2), ("c", "ab"), "(c ab)"),
    (MIXED, (3, ("ab", -1), ()), "(3 (ab -1) ())"),
    (MIXED, (-3, ("c", 20), (0, 1)), "(-3 (c 20) (0 1))"),
    (TUPLES, (), "()"),
    (TUPLES, ((),), "(())"),
    (TUPLES, ((), (), ()), "(() () ())"),
    (TUPLES, ((1, -2), (), (3,)), "((1 -2) () (3))"),
    (("many", ("row", (BIT,)), 1, 1), ((1,),), "((1))"),
]

# A kind, and texts that write none of its worths.
UNWRITTEN = [
    (WIDEST, ["", " ", "\n", "-", "+1", "-0", "+0", "00", "01", "-01", "007", "21", "-21", "100", " 1", "1 ", "1\n",
              "\n1", "1 1", "--1", "- 1", "1-", "1.0", "1e1", "0x1", "1_0", "(1)", "()", "a", "1a", "one", "True",
              "None", "1" * 5000, "-" + "9" * 5000, "0" * 5000]),
    (BIT, ["2", "-1", "10", "True", "False", "(0)", "00"]),
    (("whole", -3, -1), ["0", "1", "3", "-4", "-", "-1 ", "--1"]),
    (PAIR, ["", "a", "b", "abc", "AB", "Ab", "ab ", " ab", "ab\n", "c c", "(ab)", "'ab'", "\"ab\"", "ab:3", "3", "cab"]),
    (("row", (PAIR, WIDEST)), [
        "", "()", "(", ")", "(ab -1", "ab -1)", "ab -1", "(ab -1))", "((ab -1)", "((ab -1))", "(ab  -1)", "( ab -1)",
        "(ab -1 )", "(ab-1)", "(ab\n-1)", "(ab,-1)", "(ab, -1)", "(ab -1) ", " (ab -1)", "(ab -1)\n", "(-1 ab)",
        "(ab)", "(ab -1 0)", "(ab -01)", "(ab +1)", "(ab -0)", "(abc 1)", "(AB 1)", "[ab -1]", "{ab -1}", "(ab -1]",
        "(ab 21)", "(ab) (-1)", "(ab (-1))", "(ab -1)(ab -1)", "(ab -1) (ab -1)"]),
    (("many", BIT, 1, 2), ["()", "(0 0 0)", "( )", "(0 )", "( 0)", "(0  0)", "(00)", "0", "(0)(0)", "((0))", "(2)", "(0"]),
    (("many", ("many", BIT, 0, 2), 0, 2), [
        "", "(", ")", "(()", "())", ")(", "( )", "(() )", "( ())", "(()  ())", "(()())", "((0)(1))", "(() () ())",
        "((0 0 0))", "((()))", "(0)", "((0) 1)", "((0 1)", "((0 1)))", "([])", "(0) (1)", "((0) (1)) ", "((0)\n(1))"]),
    (("many", BIT, 0, 0), ["", "(", ")", "( )", "(0)", "(())", "\n", "()\n", "()()", "[]", "{}"]),
    (MIXED, ["(3 (ab -1) ())\n", "(3 (ab -1)())", "(3(ab -1) ())", "(3 (ab -1) ( ))", "(3 (ab -1) ()", "3 (ab -1) ()",
             "(3 (ab -1)) ()", "(3 (ab) -1 ())", "(3 ab -1 ())", "(3 (ab -1) () ())", "(3 (-1 ab) ())", "((ab -1) 3 ())"]),
    (TUPLES, ["(" * 5000 + ")" * 5000, "(" * 5000, ")" * 5000, " " * 5000, "(" + " " * 5000 + ")",
              "(" + "() " * 5000 + "())"]),
]


def plain_text(worth):
    """Python's own writing of the worth, turned into the document's."""
    return repr(worth).replace(",)", ")").replace(",", "").replace("'", "")


class WorthTextTest(WorthCase):
    def test_interface(self):
        for function in (worth_text, read_worth):
            self.assertEqual(len(inspect.signature(function).parameters), 2)

    def test_written(self):
        for kind, worth, text in WRITTEN:
            with self.subTest(kind=kind, worth=worth):
                self.assert_same(worth_text(kind, worth), text)
                self.assert_same(plain_text(worth), text)

    def test_each_worth(self):
        for kind in small_kinds():
            with self.subTest(kind=kind):
                worths = listed(kind)
                texts = [worth_text(kind, worth) for worth in worths]
                self.assert_same(texts, [plain_text(worth) for worth in worths])
                self.assertEqual(len(set(texts)), len(worths))

    def test_no_worth(self):
        cases = [
            (BIT, [True, False, 2, -1, "0", "", None, (0,), [0]]),
            (PAIR, ["", "a", "abc", "AB", ("ab", 3), 0, None, ["ab"]]),
            (("row", (BIT, PAIR)), [(True, "ab"), (0,), (0, "ab", 0), [0, "ab"], ("ab", 0), (0, "a"), (), "(0 ab)"]),
            (("many", BIT, 1, 2), [(), (0, 0, 0), (False,), (0, True), [0], (2,), 0, "()"]),
        ]
        for kind, things in cases:
            for thing in things:
                self.assert_refused(NoWorth, worth_text, kind, thing)

    def test_any_thing_as_a_worth(self):
        for kind in KINDS:
            worth = listed(kind)[-1]
            for thing in changed_at_each_place(worth, lambda part: wrong_things()) + changed_lists(worth):
                self.assert_refused(NoWorth, worth_text, kind, thing)

    def test_no_kind_comes_ahead_of_no_worth(self):
        for thing in no_kinds():
            for worth in (0, "a", (), (0, 0), None, True, [0], deep_things()[0]):
                self.assert_refused(NoKind, worth_text, thing, worth)


class ReadWorthTest(WorthCase):
    def test_written(self):
        for kind, worth, text in WRITTEN:
            with self.subTest(kind=kind, text=text):
                self.assert_same(read_worth(kind, text), worth)

    def test_each_worth_reads_back(self):
        for kind in small_kinds():
            with self.subTest(kind=kind):
                for worth in listed(kind):
                    self.assert_same(read_worth(kind, worth_text(kind, worth)), worth)
                    self.assert_same(read_worth(kind, plain_text(worth)), worth)

    def test_unwritten(self):
        for kind, texts in UNWRITTEN:
            for text in texts:
                self.assert_refused(NoText, read_worth, kind, text)

    def assert_read_as(self, worths_of_texts, kind, text):
        """The worth that is written so, or NoText, where there is none."""
        if text not in worths_of_texts:
            self.assertRaises(NoText, read_worth, kind, text)
        else:
            self.assert_same(read_worth(kind, text), worths_of_texts[text])

    def test_each_sign_changed(self):
        for kind in KINDS + [("row", (("whole", -1, 12), ("row", (PAIR, BIT)), ("many", BIT, 0, 1)))]:
            worths = {plain_text(worth): worth for worth in listed(kind)}
            for text in list(worths)[::max(1, len(worths) // 4)] + list(worths)[-1:]:
                for other in changed_signs(text, "()[]{} \n-+019abc.,:~"):
                    with self.subTest(kind=kind, text=other):
                        self.assert_read_as(worths, kind, other)

    def test_texts_of_worths_of_other_kinds(self):
        kinds = small_kinds()[::4] + KINDS
        for place, kind in enumerate(kinds):
            worths = {plain_text(worth): worth for worth in listed(kind)}
            for other in kinds[place % 5::5]:
                for worth in listed(other)[:30]:
                    with self.subTest(kind=kind, worth=worth):
                        self.assert_read_as(worths, kind, plain_text(worth))

    def test_no_kind_comes_ahead_of_no_text(self):
        for thing in no_kinds():
            for text in ("", "0", "()", "(0 1)", "a", "\n", "(("):
                self.assert_refused(NoKind, read_worth, thing, text)


class HandedInTest(WorthCase):
    def test_what_is_handed_in_stays(self):
        for thing in deep_things() + [[0, 1]]:
            before = copy.deepcopy(thing)
            with self.subTest(thing=shown(thing)):
                self.assertRaises(NoWorth, worth_text, BIT, thing)
                self.assertRaises(NoKind, worth_text, thing, thing)
                self.assertRaises(NoKind, read_worth, thing, "0")
                self.assertEqual(thing, before)
