"""[8] to [10]: weavings, orders, and the numbers of weavings; [2] of all of them."""

import copy
import inspect
import itertools
import math
import unittest

from anything import Hostile, all_weavings, full_set, no_dealings, small_sets, steps, things
from asifalone import weavings
from asifalone.errors import NoDealings, NoNumber, NoOrder, NoWeaving
from asifalone.weavings import how_many, number_of, one_by_one, weaving_at, weaving_fault


def turns(dealings):
    """The numbers that stand in each weaving, rising."""
    return [number for number, dealing in enumerate(dealings) for step in range(len(dealing) + 1)]


def full_weavings():
    """Some weavings of a hundred dealings of eight steps."""
    rising = [number for number in range(100) for turn in range(9)]
    mixed = [(7 * place + place // 100) % 100 for place in range(900)]
    return [rising, rising[::-1], list(range(100)) * 9, list(range(99, -1, -1)) * 9, mixed]


NO_TURNS = [-1, 2, 100, 10 ** 60, True, False, None, 0.0, 1.0, "0", "", b"0", [0], (0,), {}, {0}, Hostile()]


class Faults(unittest.TestCase):
    def test_weavings(self):
        for dealings in small_sets():
            for weaving in all_weavings(dealings)[:500]:
                self.assertIsNone(weaving_fault(dealings, weaving))
        for weaving in full_weavings():
            self.assertIsNone(weaving_fault(full_set(), weaving))

    def test_every_short_list(self):
        dealings = [steps("r1"), steps("w1 r2")]
        for many in range(7):
            for row in itertools.product((0, 1, 2), repeat=many):
                left = [2, 3, 0]
                told = None
                for place, number in enumerate(row):
                    left[number] -= 1
                    if left[number] < 0:
                        told = place
                        break
                if told is None and sum(left) > 0:
                    told = many
                self.assertEqual(weaving_fault(dealings, list(row)), told, row)

    def test_no_list(self):
        dealings = [steps("r1"), steps("w1")]
        for at, thing in enumerate(things() + [(0, 0, 1, 1), "0011", {0: 0, 1: 1}, range(4), b"\x00\x00\x01\x01"]):
            if not isinstance(thing, list):
                self.assertEqual(weaving_fault(dealings, thing), -1, at)
        self.assertEqual(weaving_fault(dealings, (0, 0, 1, 1)), -1)

    def test_lists_of_anything(self):
        dealings = [steps("r1"), steps("w1")]
        for at, thing in enumerate(things()):
            if isinstance(thing, list):
                self.assertEqual(weaving_fault(dealings, thing), 0, at)

    def test_no_number_at_each_place(self):
        dealings = [steps("r1 w1"), steps("w1")]
        for weaving in all_weavings(dealings):
            for place in range(len(weaving)):
                for wrong in NO_TURNS:
                    row = list(weaving)
                    row[place] = wrong
                    self.assertEqual(weaving_fault(dealings, row), place)

    def test_the_first_of_two_faults(self):
        dealings = [steps("r1"), steps("w1")]
        self.assertEqual(weaving_fault(dealings, [0, None, 1, "x"]), 1)
        self.assertEqual(weaving_fault(dealings, [0, 0, 0, None]), 2)
        self.assertEqual(weaving_fault(dealings, [None]), 0)

    def test_too_many_and_too_few(self):
        for dealings in small_sets():
            weaving = turns(dealings)
            for number in range(len(dealings)):
                self.assertEqual(weaving_fault(dealings, weaving + [number]), len(weaving))
            for place in range(len(weaving)):
                self.assertEqual(weaving_fault(dealings, weaving[:place]), place)
                self.assertEqual(weaving_fault(dealings, weaving[:place] + weaving[place + 1:]), len(weaving) - 1)
            self.assertEqual(weaving_fault(dealings, []), 0)
        self.assertEqual(weaving_fault([steps("r1"), steps("w1")], [1, 1, 1, 0]), 2)

    def test_of_the_bounds(self):
        weaving = full_weavings()[0]
        self.assertEqual(weaving_fault(full_set(), weaving[:-1]), 899)
        self.assertEqual(weaving_fault(full_set(), weaving + [0]), 900)
        self.assertEqual(weaving_fault(full_set(), weaving[:-1] + [100]), 899)
        self.assertEqual(weaving_fault(full_set(), weaving * 1000), 900)

    def test_no_dealings_comes_first(self):
        for at, wrong in enumerate(no_dealings()):
            for thing in ([], [0, 0], None, (0, 0)):
                with self.assertRaises(NoDealings, msg=at):
                    weaving_fault(wrong, thing)


class Orders(unittest.TestCase):
    def test_orders(self):
        dealings = [steps("r1"), steps("w1 r2"), steps("r1 w1 r3")]
        self.assertEqual(one_by_one(dealings, [0, 1, 2]), [0, 0, 1, 1, 1, 2, 2, 2, 2])
        self.assertEqual(one_by_one(dealings, [2, 0, 1]), [2, 2, 2, 2, 0, 0, 1, 1, 1])
        self.assertEqual(one_by_one([steps("r1")], [0]), [0, 0])
        for dealings in small_sets():
            for order in itertools.permutations(range(len(dealings))):
                told = []
                for number in order:
                    told += [number] * (len(dealings[number]) + 1)
                self.assertEqual(one_by_one(dealings, list(order)), told)
                self.assertIsNone(weaving_fault(dealings, told))
        self.assertEqual(one_by_one(full_set(), list(range(99, -1, -1))), full_weavings()[1])

    def test_no_orders(self):
        dealings = [steps("r1"), steps("w1"), steps("r1 w1")]
        wrong = things() + [
            [], [0], [0, 1], [0, 1, 2, 2], [0, 1, 2, 3], [0, 0, 1], [0, 1, 1], [2, 2, 2], [1, 2, 3], [-1, 0, 1],
            [0, 1, -1], (0, 1, 2), {0: 0, 1: 1, 2: 2}, {0, 1, 2}, "012", range(3), [0, True, 2], [False, 1, 2],
            [0, 1.0, 2], [0, 1, "2"], [0, 1, None], [[0, 1, 2]], [0, 1, [2]], [0, Hostile(), 2], [0, 1, 10 ** 60],
        ]
        for at, order in enumerate(wrong):
            with self.assertRaises(NoOrder, msg=at):
                one_by_one(dealings, order)

    def test_all_lists_of_three(self):
        dealings = [steps("r1"), steps("w1"), steps("r1 w1")]
        for order in itertools.product(range(-1, 4), repeat=3):
            if sorted(order) == [0, 1, 2]:
                self.assertIsNone(weaving_fault(dealings, one_by_one(dealings, list(order))))
            else:
                with self.assertRaises(NoOrder):
                    one_by_one(dealings, list(order))

    def test_no_dealings_comes_first(self):
        for at, wrong in enumerate(no_dealings()):
            for order in ([0], [], None):
                with self.assertRaises(NoDealings, msg=at):
                    one_by_one(wrong, order)


class Numbers(unittest.TestCase):
    def test_all_weavings_there_and_back(self):
        for dealings in small_sets():
            rows = all_weavings(dealings)
            self.assertEqual(rows, sorted(rows))
            self.assertEqual(how_many(dealings), len(rows))
            for number, weaving in enumerate(rows):
                self.assertEqual(weaving_at(dealings, number), weaving)
                self.assertEqual(number_of(dealings, weaving), number)

    def test_the_numbers_of_a_plain_set(self):
        dealings = [steps("r1"), steps("w1")]
        self.assertEqual(how_many(dealings), 6)
        self.assertEqual(weaving_at(dealings, 0), [0, 0, 1, 1])
        self.assertEqual(weaving_at(dealings, 1), [0, 1, 0, 1])
        self.assertEqual(weaving_at(dealings, 5), [1, 1, 0, 0])
        self.assertEqual(number_of(dealings, [1, 0, 0, 1]), 3)

    def test_no_number(self):
        for dealings in small_sets():
            many = how_many(dealings)
            wrong = things() + [many, many + 1, 2 * many, -1, -many, float(many - 1), str(many - 1), [0], (0,)]
            for at, number in enumerate(wrong):
                with self.assertRaises(NoNumber, msg=at):
                    weaving_at(dealings, number)

    def test_no_weaving_tells_its_place(self):
        dealings = [steps("r1"), steps("w1")]
        for weaving, place in (
            (None, -1), ((0, 0, 1, 1), -1), ("0011", -1), ([], 0), ([0], 1), ([0, 0, 1], 3), ([0, 0, 0, 1], 2),
            ([0, 0, 1, 1, 1], 4), ([0, 1, True, 0], 2), ([0, 0, 1, 2], 3), ([[0], 0, 1, 1], 0), ([0, -1, 1, 1], 1),
        ):
            with self.assertRaises(NoWeaving) as caught:
                number_of(dealings, weaving)
            self.assertEqual(caught.exception.place, place)
        for at, thing in enumerate(things()):
            with self.assertRaises(NoWeaving, msg=at) as caught:
                number_of(dealings, thing)
            self.assertEqual(caught.exception.place, weaving_fault(dealings, thing))

    def test_the_bounds(self):
        dealings = full_set()
        many = how_many(dealings)
        self.assertEqual(many, math.factorial(900) // math.factorial(9) ** 100)
        rising = full_weavings()[0]
        self.assertEqual(weaving_at(dealings, 0), rising)
        self.assertEqual(weaving_at(dealings, many - 1), rising[::-1])
        for weaving in full_weavings():
            self.assertEqual(weaving_at(dealings, number_of(dealings, weaving)), weaving)
        for number in (1, many // 2, many // 3, many - 2, 10 ** 59 + 7):
            self.assertEqual(number_of(dealings, weaving_at(dealings, number)), number)
        for number in (many, many + 1, -1):
            with self.assertRaises(NoNumber):
                weaving_at(dealings, number)

    def test_the_order_of_lists_at_the_bounds(self):
        dealings = full_set()
        rows = full_weavings()
        numbers = [number_of(dealings, weaving) for weaving in rows]
        self.assertEqual([number_of(dealings, weaving) for weaving in sorted(rows)], sorted(numbers))
        self.assertEqual(len(set(numbers)), len(rows))

    def test_of_unlike_dealings(self):
        dealings = [steps("r1 r2 r3 r4 r5 r6 r7 w7"), steps("w1"), steps("r2 w2 r3"), steps("w4 w5 w6 w7 w8")] * 5
        sizes = [len(dealing) + 1 for dealing in dealings]
        many = how_many(dealings)
        self.assertEqual(many, math.factorial(sum(sizes)) // math.prod(math.factorial(size) for size in sizes))
        for part in range(40):
            number = many * part // 40
            weaving = weaving_at(dealings, number)
            self.assertIsNone(weaving_fault(dealings, weaving))
            self.assertEqual(number_of(dealings, weaving), number)
            self.assertLess(weaving, weaving_at(dealings, number + 1))

    def test_no_dealings_comes_first(self):
        for at, wrong in enumerate(no_dealings()):
            with self.assertRaises(NoDealings, msg=at):
                how_many(wrong)
            for thing in (0, -1, None, [], [0, 0]):
                with self.assertRaises(NoDealings, msg=at):
                    weaving_at(wrong, thing)
                with self.assertRaises(NoDealings, msg=at):
                    number_of(wrong, thing)


class Handed(unittest.TestCase):
    def test_by_name(self):
        dealings = [steps("r1"), steps("w1")]
        self.assertIsNone(weaving_fault(thing=[0, 1, 1, 0], dealings=dealings))
        self.assertEqual(one_by_one(order=[1, 0], dealings=dealings), [1, 1, 0, 0])
        self.assertEqual(how_many(dealings=dealings), 6)
        self.assertEqual(weaving_at(number=1, dealings=dealings), [0, 1, 0, 1])
        self.assertEqual(number_of(weaving=[0, 1, 0, 1], dealings=dealings), 1)

    def test_the_interface(self):
        for name, names in (
            ("weaving_fault", ["dealings", "thing"]), ("one_by_one", ["dealings", "order"]),
            ("how_many", ["dealings"]), ("weaving_at", ["dealings", "number"]), ("number_of", ["dealings", "weaving"]),
        ):
            asked = getattr(weavings, name)
            self.assertEqual(list(inspect.signature(asked).parameters), names)
            self.assertEqual(asked.__module__, "asifalone.weavings")

    def test_told_lists_are_new(self):
        dealings = [steps("r1"), steps("w1")]
        order = [0, 1]
        for asked, given in ((one_by_one, order), (weaving_at, 0)):
            first = asked(dealings, given)
            self.assertIs(type(first), list)
            self.assertIsNot(asked(dealings, given), first)
            self.assertIsNot(first, order)
            first.append("spoilt")
            self.assertEqual(asked(dealings, given), [0, 0, 1, 1])

    def test_nothing_handed_in_is_changed(self):
        dealings = [steps("r1"), steps("w1 r2"), steps("r2 w2")]
        order = [2, 0, 1]
        weaving = [2, 0, 1, 1, 2, 2, 0, 1]
        wrong = [2, 0, 1, 1, 1, 1, [3], {"a": 1}]
        before = copy.deepcopy((dealings, order, weaving, wrong))
        one_by_one(dealings, order)
        how_many(dealings)
        weaving_at(dealings, 5)
        number_of(dealings, weaving)
        weaving_fault(dealings, weaving)
        weaving_fault(dealings, wrong)
        for asked, given in ((one_by_one, wrong), (weaving_at, wrong), (number_of, wrong)):
            with self.assertRaises((NoOrder, NoNumber, NoWeaving)):
                asked(dealings, given)
        self.assertEqual((dealings, order, weaving, wrong), before)


if __name__ == "__main__":
    unittest.main()
