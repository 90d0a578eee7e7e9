import copy
import inspect

from tests.cases import WorthCase
from tests.samples import (
    BIT, FULL_PICK, KINDS, OF_500, OF_501, PAIR, changed_at_each_place, changed_lists, deep_things, drawn_kinds,
    listed, no_kinds, shown, small_kinds, wrong_things,
)
from worthkinds.counting import all_worths, how_many, number_of, worth_of
from worthkinds.errors import NoKind, NoWorth, TooMany
from worthkinds.stepping import between, middle, next_worth, worth_ahead

WIDEST = ("whole", -20, 20)
# 41 * 41 worths, and all tuples of up to three tuples of up to three of 41 numbers.
OF_1681 = ("row", (WIDEST, WIDEST))
HUGE = ("many", ("many", WIDEST, 0, 3), 0, 3)
TALL = ("row", (("row", (WIDEST, FULL_PICK, WIDEST)), ("many", WIDEST, 1, 3), ("row", (PAIR, WIDEST))))

# A kind, a worth, the one ahead, and the next one.
WRITTEN = [
    (BIT, 0, None, 1),
    (BIT, 1, 0, None),
    (("whole", -3, 5), -1, -2, 0),
    (("whole", -3, 5), -3, None, -2),
    (("whole", 7, 7), 7, None, None),
    (FULL_PICK, "d", None, "abc"),
    (FULL_PICK, "abc", "d", "a"),
    (FULL_PICK, "z", "a", None),
    (("row", (PAIR, BIT)), ("ab", 0), None, ("ab", 1)),
    (("row", (PAIR, BIT)), ("ab", 1), ("ab", 0), ("c", 0)),
    (("row", (PAIR, BIT)), ("c", 1), ("c", 0), None),
    (("many", BIT, 0, 0), (), None, None),
    (("many", BIT, 0, 2), (), None, (0,)),
    (("many", BIT, 0, 2), (0,), (), (1,)),
    (("many", BIT, 0, 2), (1,), (0,), (0, 0)),
    (("many", BIT, 0, 2), (0, 1), (0, 0), (1, 0)),
    (("many", BIT, 0, 2), (1, 1), (1, 0), None),
    (("many", ("many", BIT, 0, 1), 1, 2), ((1,),), ((0,),), ((), ())),
    (("many", ("many", BIT, 0, 1), 1, 2), ((), (1,)), ((), (0,)), ((0,), ())),
    (HUGE, (), None, ((),)),
    (HUGE, ((20, 20, 20),) * 3, ((20, 20, 20), (20, 20, 20), (20, 20, 19)), None),
    (HUGE, ((20, 20, 20),), ((20, 20, 19),), ((), ())),
    (HUGE, ((), (20, 20, 20)), ((), (20, 20, 19)), ((-20,), ())),
    (OF_1681, (0, 20), (0, 19), (1, -20)),
]

# A kind, and the worth in its middle.
MIDDLES = [
    (BIT, 0),
    (("whole", 7, 7), 7),
    (("whole", 0, 2), 1),
    (("whole", 0, 3), 1),
    (WIDEST, 0),
    (("whole", -20, 19), -1),
    (PAIR, "ab"),
    (FULL_PICK, "abc"),
    (("pick", (("a", 1), ("b", 9), ("c", 1))), "b"),
    (("row", (PAIR, BIT)), ("ab", 1)),
    (("row", (WIDEST, WIDEST)), (0, 0)),
    (("row", (WIDEST, PAIR)), (0, "ab")),
    (("many", BIT, 0, 0), ()),
    (("many", BIT, 0, 1), (0,)),
    (("many", BIT, 0, 3), (0, 0, 0)),
    (("many", BIT, 1, 2), (0, 0)),
    (("many", BIT, 3, 3), (0, 1, 1)),
    (("many", ("many", WIDEST, 3, 3), 3, 3), ((0, 0, 0),) * 3),
]


class OneStepTest(WorthCase):
    def test_interface(self):
        for function, arguments in ((next_worth, 2), (worth_ahead, 2), (between, 3), (middle, 1)):
            self.assertEqual(len(inspect.signature(function).parameters), arguments)

    def test_written(self):
        for kind, worth, ahead, behind in WRITTEN:
            with self.subTest(kind=kind, worth=worth):
                self.assert_same(worth_ahead(kind, worth), ahead)
                self.assert_same(next_worth(kind, worth), behind)

    def test_all_are_come_to_once_each(self):
        for kind in small_kinds() + [OF_500, OF_501, OF_1681]:
            worths = listed(kind)
            come_to = [worths[0]]
            while len(come_to) <= len(worths) and next_worth(kind, come_to[-1]) is not None:
                come_to.append(next_worth(kind, come_to[-1]))
            come_back = [worths[-1]]
            while len(come_back) <= len(worths) and worth_ahead(kind, come_back[-1]) is not None:
                come_back.append(worth_ahead(kind, come_back[-1]))
            with self.subTest(kind=kind):
                self.assert_same(come_to, worths)
                self.assert_same(come_back, worths[::-1])
                if len(worths) <= 500:
                    self.assert_same(come_to, all_worths(kind))

    def test_kinds_of_very_many_worths(self):
        for kind in [HUGE, TALL] + [kind for kind in drawn_kinds(400) if how_many(kind) > 130]:
            count = how_many(kind)
            with self.subTest(kind=kind):
                for number in (0, 1, count // 3, count // 2, count - 2, count - 1):
                    worth = worth_of(kind, number)
                    ahead = worth_of(kind, number - 1) if number > 0 else None
                    behind = worth_of(kind, number + 1) if number < count - 1 else None
                    self.assert_same(worth_ahead(kind, worth), ahead)
                    self.assert_same(next_worth(kind, worth), behind)

    def test_any_thing_as_a_worth(self):
        for kind in KINDS + [HUGE]:
            worth = worth_of(kind, how_many(kind) - 1)
            for thing in changed_at_each_place(worth, lambda part: wrong_things()) + changed_lists(worth):
                self.assert_refused(NoWorth, next_worth, kind, thing)
                self.assert_refused(NoWorth, worth_ahead, kind, thing)

    def test_no_kind_comes_ahead_of_no_worth(self):
        for thing in no_kinds():
            for worth in (0, "a", (), (0, 0), None, True, [0], deep_things()[0]):
                self.assert_refused(NoKind, next_worth, thing, worth)
                self.assert_refused(NoKind, worth_ahead, thing, worth)


class BetweenTest(WorthCase):
    def test_written(self):
        cases = [
            (WIDEST, -2, 2, [-2, -1, 0, 1, 2]),
            (WIDEST, 3, 3, [3]),
            (WIDEST, 3, 2, []),
            (WIDEST, 20, -20, []),
            (FULL_PICK, "abc", "z", ["abc", "a", "z"]),
            (FULL_PICK, "z", "d", []),
            (("row", (PAIR, BIT)), ("ab", 1), ("c", 0), [("ab", 1), ("c", 0)]),
            (("many", BIT, 0, 2), (), (0, 0), [(), (0,), (1,), (0, 0)]),
            (("many", BIT, 0, 0), (), (), [()]),
            (HUGE, ((20, 20, 20),), ((), ()), [((20, 20, 20),), ((), ())]),
            (HUGE, ((), ()), ((20, 20, 20),), []),
            (HUGE, ((20, 20, 20),) * 3, (), []),
        ]
        for kind, one, other, worths in cases:
            with self.subTest(kind=kind, one=one, other=other):
                self.assert_same(between(kind, one, other), worths)

    def test_each_two(self):
        for kind in small_kinds()[::3]:
            worths = listed(kind)
            with self.subTest(kind=kind):
                self.assert_same(between(kind, worths[0], worths[-1]), worths)
                for first in range(0, len(worths), 1 + len(worths) // 9):
                    for last in range(0, len(worths), 1 + len(worths) // 9):
                        told = between(kind, worths[first], worths[last])
                        self.assertIsInstance(told, list)
                        self.assert_same(told, worths[first:last + 1])

    def test_just_500_and_501(self):
        for kind in (OF_1681, HUGE, TALL):
            count = how_many(kind)
            for first in (0, 7, count // 2, count - 502):
                one = worth_of(kind, first)
                told = between(kind, one, worth_of(kind, first + 499))
                self.assertEqual(len(told), 500)
                self.assert_same(told[::100], [worth_of(kind, first + number) for number in range(0, 500, 100)])
                self.assert_same([number_of(kind, worth) for worth in told], list(range(first, first + 500)))
                self.assert_refused(TooMany, between, kind, one, worth_of(kind, first + 500))
                self.assert_refused(TooMany, between, kind, one, worth_of(kind, count - 1))
                self.assert_same(between(kind, worth_of(kind, first + 500), one), [])
        self.assertEqual(len(between(OF_500, (1, -2, 0), (20, 2, 4))), 500)
        self.assert_refused(TooMany, between, OF_501, (), ((20, 2, 4),))

    def test_a_new_list_each_time(self):
        between(WIDEST, 0, 2).clear()
        self.assert_same(between(WIDEST, 0, 2), [0, 1, 2])

    def test_no_worth(self):
        for kind in KINDS[::2] + [HUGE]:
            worth = worth_of(kind, 0)
            for thing in wrong_things() + changed_lists(worth):
                self.assert_refused(NoWorth, between, kind, worth, thing)
                self.assert_refused(NoWorth, between, kind, thing, worth)
                self.assert_refused(NoWorth, between, kind, thing, thing)

    def test_no_kind_comes_first(self):
        for thing in no_kinds():
            for worth in (0, (), None, True, [0], deep_things()[0]):
                self.assert_refused(NoKind, between, thing, worth, 0)
                self.assert_refused(NoKind, between, thing, 0, worth)


class MiddleTest(WorthCase):
    def test_written(self):
        for kind, worth in MIDDLES:
            with self.subTest(kind=kind):
                self.assert_same(middle(kind), worth)

    def test_as_many_ahead_as_behind_or_one_fewer(self):
        for kind in small_kinds() + [OF_500, OF_501, OF_1681]:
            with self.subTest(kind=kind):
                worths = listed(kind)
                ahead = worths.index(middle(kind))
                behind = len(worths) - ahead - 1
                self.assertIn(behind - ahead, (0, 1))
                self.assert_same(middle(kind), worths[ahead])

    def test_kinds_of_very_many_worths(self):
        for kind in [HUGE, TALL] + drawn_kinds(200):
            with self.subTest(kind=kind):
                ahead = number_of(kind, middle(kind))
                self.assertIn(how_many(kind) - ahead - 1 - ahead, (0, 1))

    def test_no_kind(self):
        for thing in no_kinds():
            self.assert_refused(NoKind, middle, thing)


class HandedInTest(WorthCase):
    def test_what_is_handed_in_stays(self):
        for thing in deep_things() + [[0, 1]]:
            before = copy.deepcopy(thing)
            with self.subTest(thing=shown(thing)):
                for function in (next_worth, worth_ahead):
                    self.assertRaises(NoWorth, function, BIT, thing)
                    self.assertRaises(NoKind, function, thing, thing)
                self.assertRaises(NoWorth, between, BIT, thing, thing)
                self.assertRaises(NoKind, between, thing, thing, thing)
                self.assertRaises(NoKind, middle, thing)
                self.assertEqual(thing, before)
