import copy
import inspect

from tests.cases import WorthCase
from tests.samples import BIT, FULL_PICK, KINDS, OF_500, OF_501, PAIR, deep_things, listed, no_kinds, small_kinds
from worthkinds.counting import number_of
from worthkinds.errors import Ended, NoKind
from worthkinds.finding import Finder, most_asks
from worthkinds.kinds import is_kind

WIDEST = ("whole", -20, 20)
ONE = ("whole", 7, 7)


def of_count(count):
    """A kind of just so many worths."""
    if count <= 41:
        return ("whole", -20, count - 21)
    for factor in range(2, 42):
        if count % factor == 0 and count // factor <= 41:
            return ("row", (of_count(factor), of_count(count // factor)))
    return ("many", of_count(count - 1), 0, 1)


def kinds_of_counts():
    """Kinds of 1 to 130 worths, but for 107, of which none is made so simply."""
    return [of_count(count) for count in range(1, 131) if is_kind(of_count(count))]


def plain_most_asks(count):
    asks = 0
    while 2 ** asks < count:
        asks += 1
    return asks


def told(finder):
    """All that a finder tells without being changed."""
    ask = finder.ask() if finder.left() > 1 else None
    return (finder.left(), finder.found(), finder.asks(), ask)


def led_to(kind, answers):
    finder = Finder(kind)
    for answer in answers:
        finder.answer(answer)
    return finder


class MostAsksTest(WorthCase):
    def test_interface(self):
        self.assertEqual(len(inspect.signature(most_asks).parameters), 1)

    def test_written(self):
        counts = {1: 0, 2: 1, 3: 2, 4: 2, 5: 3, 7: 3, 8: 3, 9: 4, 15: 4, 16: 4, 17: 5, 31: 5, 32: 5, 33: 6, 41: 6,
                  63: 6, 64: 6, 65: 7, 127: 7, 128: 7, 129: 8, 130: 8}
        for count, asks in counts.items():
            kind = of_count(count)
            with self.subTest(count=count, kind=kind):
                self.assertEqual(len(listed(kind)), count)
                self.assert_same(most_asks(kind), asks)

    def test_all_sorts(self):
        for kind in small_kinds():
            with self.subTest(kind=kind):
                self.assert_same(most_asks(kind), plain_most_asks(len(listed(kind))))

    def test_kinds_that_are_just_counted(self):
        self.assert_same(most_asks(OF_500), 9)
        self.assert_same(most_asks(OF_501), 9)
        self.assert_same(most_asks(("row", (WIDEST, WIDEST))), 11)
        self.assert_same(most_asks(("many", ("many", WIDEST, 3, 3), 3, 3)), plain_most_asks(41 ** 9))
        # Three times three of four words are 2 ** 18 worths; with the shorter ones there are a few more.
        powers = ("many", ("many", FULL_PICK, 3, 3), 3, 3)
        self.assert_same(most_asks(powers), 18)
        self.assert_same(most_asks(("many", ("many", FULL_PICK, 3, 3), 0, 3)), 19)
        self.assert_same(most_asks(("many", ("many", FULL_PICK, 3, 3), 0, 2)), 13)

    def test_no_kind(self):
        for thing in no_kinds():
            self.assert_refused(NoKind, most_asks, thing)


class FinderTest(WorthCase):
    def test_interface(self):
        arguments = {"left": 0, "ask": 0, "answer": 1, "found": 0, "asks": 0}
        finder = Finder(BIT)
        for name, count in arguments.items():
            self.assertEqual(len(inspect.signature(getattr(finder, name)).parameters), count)
        self.assertEqual(len(inspect.signature(Finder).parameters), 1)

    def test_of_one(self):
        for kind, worth in [(ONE, 7), (("pick", (("a", 1),)), "a"), (("many", BIT, 0, 0), ()), (("row", (ONE,)), (7,))]:
            finder = Finder(kind)
            self.assert_same(finder.left(), 1)
            self.assert_same(finder.found(), worth)
            self.assert_same(finder.asks(), 0)
            self.assertRaises(Ended, finder.ask)
            self.assertRaises(Ended, finder.answer, True)
            self.assertRaises(Ended, finder.answer, False)

    def test_of_two(self):
        for is_less, worth in [(True, "ab"), (False, "c")]:
            finder = Finder(PAIR)
            self.assert_same(told(finder), (2, None, 0, 1))
            self.assertIsNone(finder.answer(is_less))
            self.assert_same(told(finder), (1, worth, 1, None))

    def test_each_worth_is_found(self):
        for kind in small_kinds() + kinds_of_counts():
            worths = listed(kind)
            most = 0
            with self.subTest(kind=kind):
                for number, worth in enumerate(worths):
                    finder = Finder(kind)
                    can_be = list(range(len(worths)))
                    asks = 0
                    while len(can_be) > 1:
                        self.assert_same(finder.left(), len(can_be))
                        self.assert_same(finder.asks(), asks)
                        self.assertIsNone(finder.found())
                        asked = finder.ask()
                        self.assertTrue(can_be[0] < asked <= can_be[-1])
                        self.assertIsNone(finder.answer(number < asked))
                        can_be = [each for each in can_be if (each < asked) == (number < asked)]
                        asks += 1
                    self.assert_same(told(finder), (1, worth, asks, None))
                    self.assertLessEqual(asks, plain_most_asks(len(worths)))
                    most = max(most, asks)
                # No way needs fewer at most, so some worth needs them all.
                self.assertEqual(most, most_asks(kind))

    def test_a_sought_worth_in_kinds_of_many_worths(self):
        kind = ("many", ("many", WIDEST, 0, 3), 0, 3)
        for sought in ((), ((20, 20, 20),) * 3, ((), (-20, 3), (1,)), ((0, 0, 0), (5,))):
            number = number_of(kind, sought)
            finder = Finder(kind)
            while finder.left() > 1:
                finder.answer(number < finder.ask())
            self.assert_same(finder.found(), sought)
            self.assertLessEqual(finder.asks(), most_asks(kind))

    def test_an_ask_without_an_answer_changes_nothing(self):
        for kind in KINDS + [of_count(130)]:
            for answers in ([], [True], [False], [True, False]):
                if most_asks(kind) <= len(answers) + 1:
                    continue
                finder = led_to(kind, answers)
                before = told(finder)
                self.assert_same([finder.ask() for _ in range(5)], [before[3]] * 5)
                self.assert_same(told(finder), before)
                other = led_to(kind, answers)
                finder.answer(True)
                other.answer(True)
                self.assert_same(told(finder), told(other))

    def test_what_is_refused_changes_nothing(self):
        for kind in KINDS:
            for answer in (True, False):
                finder = Finder(kind)
                while finder.left() > 1:
                    finder.answer(answer)
                before = told(finder)
                self.assert_same(before[1], listed(kind)[0 if answer else -1])
                for _ in range(3):
                    self.assertRaises(Ended, finder.ask)
                    self.assertRaises(Ended, finder.answer, True)
                    self.assertRaises(Ended, finder.answer, False)
                    self.assert_same(told(finder), before)

    def test_two_finders_of_one_kind(self):
        for kind in (WIDEST, OF_500, ("many", PAIR, 0, 3)):
            one = Finder(kind)
            other = Finder(kind)
            before = told(other)
            one.answer(True)
            one.answer(False)
            self.assert_same(told(other), before)
            ahead = told(one)
            other.answer(False)
            self.assert_same(told(one), ahead)
            self.assert_same(told(led_to(kind, [True, False])), ahead)
            self.assert_same(told(led_to(kind, [False])), told(other))
            self.assert_same(told(Finder(kind)), before)

    def test_no_kind(self):
        for thing in no_kinds():
            self.assert_refused(NoKind, Finder, thing)

    def test_what_is_handed_in_stays(self):
        for thing in deep_things():
            before = copy.deepcopy(thing)
            self.assertRaises(NoKind, Finder, thing)
            self.assertRaises(NoKind, most_asks, thing)
            self.assertEqual(thing, before)
