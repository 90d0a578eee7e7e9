import copy
import inspect

from tests.cases import WorthCase
from tests.samples import (
    BIT, FULL_PICK, KINDS, OF_500, OF_501, PAIR,
    changed_at_each_place, deep_things, drawn_kinds, listed, no_kinds, shown, small_kinds, wrong_things,
)
from worthkinds.counting import all_worths, how_many, number_of, worth_of
from worthkinds.errors import NoKind, NoWorth, TooMany
from worthkinds.kinds import is_worth

WRITTEN = [
    (("whole", -2, 1), [-2, -1, 0, 1]),
    (("whole", 4, 4), [4]),
    (("pick", (("c", 2), ("a", 9), ("bb", 1))), ["c", "a", "bb"]),
    (("row", (BIT, ("pick", (("z", 1), ("a", 1))))), [(0, "z"), (0, "a"), (1, "z"), (1, "a")]),
    (("row", (("whole", -1, 1), BIT)), [(-1, 0), (-1, 1), (0, 0), (0, 1), (1, 0), (1, 1)]),
    (("row", (BIT, ("whole", 3, 5))), [(0, 3), (0, 4), (0, 5), (1, 3), (1, 4), (1, 5)]),
    (("many", BIT, 0, 0), [()]),
    (("many", BIT, 0, 2), [(), (0,), (1,), (0, 0), (0, 1), (1, 0), (1, 1)]),
    (("many", ("whole", -1, 1), 2, 2),
     [(-1, -1), (-1, 0), (-1, 1), (0, -1), (0, 0), (0, 1), (1, -1), (1, 0), (1, 1)]),
    (("many", ("pick", (("z", 1), ("a", 1))), 1, 2), [("z",), ("a",), ("z", "z"), ("z", "a"), ("a", "z"), ("a", "a")]),
    (("many", ("many", BIT, 0, 1), 1, 2),
     [((),), ((0,),), ((1,),),
      ((), ()), ((), (0,)), ((), (1,)), ((0,), ()), ((0,), (0,)), ((0,), (1,)), ((1,), ()), ((1,), (0,)), ((1,), (1,))]),
    (("row", (("many", BIT, 0, 1), ("row", (PAIR,)))),
     [((), ("ab",)), ((), ("c",)), ((0,), ("ab",)), ((0,), ("c",)), ((1,), ("ab",)), ((1,), ("c",))]),
    (("many", ("row", (BIT, BIT)), 0, 1), [(), ((0, 0),), ((0, 1),), ((1, 0),), ((1, 1),)]),
]

NO_KINDS = no_kinds()


def counted_kinds():
    return small_kinds() + [kind for kind, _ in WRITTEN]


class HowManyTest(WorthCase):
    def test_interface(self):
        for function, arguments in ((how_many, 1), (worth_of, 2), (number_of, 2), (all_worths, 1)):
            self.assertEqual(len(inspect.signature(function).parameters), arguments)

    def test_written(self):
        for kind, worths in WRITTEN:
            with self.subTest(kind=kind):
                self.assert_same(how_many(kind), len(worths))

    def test_as_many_as_are_listed(self):
        for kind in counted_kinds() + [OF_500, OF_501]:
            with self.subTest(kind=kind):
                self.assert_same(how_many(kind), len(listed(kind)))

    def test_just_counted(self):
        widest = ("whole", -20, 20)
        tuples = 1 + 41 + 41 ** 2 + 41 ** 3
        self.assertEqual(how_many(widest), 41)
        self.assertEqual(how_many(("many", widest, 0, 3)), tuples)
        self.assertEqual(how_many(("many", widest, 2, 3)), 41 ** 2 + 41 ** 3)
        self.assertEqual(how_many(("row", (("many", widest, 0, 3),) * 3)), tuples ** 3)
        self.assertEqual(how_many(("many", ("many", widest, 0, 3), 0, 3)), 1 + tuples + tuples ** 2 + tuples ** 3)
        self.assertEqual(how_many(("many", ("row", (widest,) * 3), 3, 3)), 41 ** 9)
        self.assertEqual(how_many(("row", (widest, FULL_PICK, ("row", (widest, widest))))), 41 * 4 * 41 * 41)

    def test_no_kind(self):
        for thing in NO_KINDS:
            with self.subTest(thing=shown(thing)):
                self.assertRaises(NoKind, how_many, thing)


class WorthOfTest(WorthCase):
    def test_written(self):
        for kind, worths in WRITTEN:
            for number, worth in enumerate(worths):
                with self.subTest(kind=kind, number=number):
                    self.assert_same(worth_of(kind, number), worth)

    def test_as_listed(self):
        for kind in counted_kinds():
            with self.subTest(kind=kind):
                self.assert_same([worth_of(kind, number) for number in range(how_many(kind))], listed(kind))

    def test_numbers_without_a_worth(self):
        for kind in counted_kinds():
            count = len(listed(kind))
            self.assert_same(worth_of(kind, 0), listed(kind)[0])
            self.assert_same(worth_of(kind, count - 1), listed(kind)[-1])
            for number in (-1, -2, -count, -count - 1, count, count + 1, 2 * count, 10 ** 5000, -(10 ** 5000)):
                with self.subTest(kind=kind, number=shown(number)):
                    self.assertRaises(NoWorth, worth_of, kind, number)

    def test_what_is_no_whole_number_has_no_worth(self):
        for kind in KINDS:
            for number in (True, False, None, "0", (0,), [0]):
                with self.subTest(kind=kind, number=number):
                    self.assertRaises(NoWorth, worth_of, kind, number)

    def test_no_kind(self):
        for thing in NO_KINDS:
            for number in (0, 1, -1, 1000):
                with self.subTest(thing=shown(thing), number=number):
                    self.assertRaises(NoKind, worth_of, thing, number)


class NumberOfTest(WorthCase):
    def test_written(self):
        for kind, worths in WRITTEN:
            for number, worth in enumerate(worths):
                with self.subTest(kind=kind, worth=worth):
                    self.assert_same(number_of(kind, worth), number)

    def test_as_listed(self):
        for kind in counted_kinds():
            with self.subTest(kind=kind):
                worths = listed(kind)
                self.assert_same([number_of(kind, worth) for worth in worths], list(range(len(worths))))

    def test_no_worth(self):
        cases = [
            (BIT, [True, False, 2, -1, "0", None, (0,), [0]]),
            (PAIR, ["", "a", "abc", ("ab", 3), 0, None, ["ab"]]),
            (("row", (BIT, PAIR)), [(True, "ab"), (0,), (0, "ab", 0), [0, "ab"], ("ab", 0), (0, "a"), ()]),
            (("many", BIT, 1, 2), [(), (0, 0, 0), (False,), (0, True), [0], (2,), (0, 2), 0]),
            (("many", ("many", BIT, 0, 1), 0, 2), [((True,),), ([],), (0,), ((0, 0),), ((), (), ())]),
        ]
        for kind, things in cases:
            for thing in things:
                with self.subTest(kind=kind, thing=thing):
                    self.assertRaises(NoWorth, number_of, kind, thing)

    def test_any_thing(self):
        for kind in KINDS:
            for thing in wrong_things():
                with self.subTest(kind=kind, thing=shown(thing)):
                    self.assertRaises(NoWorth, number_of, kind, thing)

    def test_wrong_thing_at_any_place(self):
        for kind in KINDS:
            for thing in changed_at_each_place(listed(kind)[-1], lambda part: wrong_things()):
                with self.subTest(kind=kind, thing=shown(thing)):
                    self.assertRaises(NoWorth, number_of, kind, thing)

    def test_no_kind_comes_ahead_of_no_worth(self):
        for thing in NO_KINDS:
            for worth in (0, (), "a", (0, 0, 0, 0), None, True, [], deep_things()[0]):
                with self.subTest(thing=shown(thing), worth=worth):
                    self.assertRaises(NoKind, number_of, thing, worth)

    def test_what_is_handed_in_stays(self):
        for thing in deep_things() + [[0, 1], [[0], ["ab", 0]]]:
            before = copy.deepcopy(thing)
            self.assertRaises(NoWorth, number_of, BIT, thing)
            self.assertRaises(NoKind, number_of, [thing], thing)
            self.assertEqual(thing, before)


class AllWorthsTest(WorthCase):
    def test_written(self):
        for kind, worths in WRITTEN:
            with self.subTest(kind=kind):
                self.assert_same(all_worths(kind), worths)

    def test_as_listed(self):
        for kind in [kind for kind in drawn_kinds(400) if how_many(kind) <= 500] + KINDS + [OF_500]:
            with self.subTest(kind=kind):
                self.assertIsInstance(all_worths(kind), list)
                self.assert_same(all_worths(kind), listed(kind))

    def test_too_many(self):
        widest = ("whole", -20, 20)
        self.assertEqual(len(all_worths(OF_500)), 500)
        for kind in [OF_501, ("row", (widest, widest)), ("many", widest, 0, 3), ("many", ("row", (widest,) * 3), 3, 3),
                     ("many", ("many", widest, 0, 3), 0, 3)]:
            with self.subTest(kind=kind):
                self.assertRaises(TooMany, all_worths, kind)

    def test_drawn_kinds_of_more_than_500(self):
        large = [kind for kind in drawn_kinds(400) if how_many(kind) > 500]
        self.assertTrue(large)
        for kind in large:
            with self.subTest(kind=kind):
                self.assertRaises(TooMany, all_worths, kind)

    def test_no_kind_comes_ahead_of_too_many(self):
        for thing in NO_KINDS:
            with self.subTest(thing=shown(thing)):
                self.assertRaises(NoKind, all_worths, thing)

    def test_a_new_list_each_time(self):
        for kind in KINDS:
            with self.subTest(kind=kind):
                first = all_worths(kind)
                self.assertIsNot(first, all_worths(kind))
                first.clear()
                self.assert_same(all_worths(kind), listed(kind))


class TogetherTest(WorthCase):
    def test_numbers_lead_from_each_worth_to_itself(self):
        for kind in counted_kinds():
            with self.subTest(kind=kind):
                worths = all_worths(kind)
                self.assertEqual(len(worths), how_many(kind))
                for number, worth in enumerate(worths):
                    self.assertIs(is_worth(kind, worth), True)
                    self.assert_same(number_of(kind, worth), number)
                    self.assert_same(worth_of(kind, number), worth)

    def test_no_worth_is_left_out(self):
        candidates = []
        for kind in KINDS:
            candidates.extend(listed(kind))
        for kind in KINDS:
            told = [repr(worth) for worth in all_worths(kind)]
            for thing in candidates:
                with self.subTest(kind=kind, thing=thing):
                    self.assertIs(is_worth(kind, thing), repr(thing) in told)
