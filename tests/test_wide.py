"""[24] and [25]: wide places, widened dealings, the fewest wide places; [2] of them."""

import copy
import inspect
import itertools
import random
import unittest

from anything import Hostile, no_dealings, random_sets, reads, right_cuts, small_sets, steps, things, writes
from asifalone import wide
from asifalone.dealings import are_dealings
from asifalone.errors import NoDealings, NoPlaces, NoRoom, TooMany
from asifalone.least import safe
from asifalone.wide import fewest_wide, wide_places, widened


def texts(*rows):
    """The dealings of these texts."""
    return [steps(row) for row in rows]


def plain_places(dealings):
    """What [24] says of wide places."""
    return [
        (number, place) for number, dealing in enumerate(dealings) for place, (word, box) in enumerate(dealing)
        if word == "read" and box not in writes(dealing)
    ]


def plain_widened(dealings, places):
    """What [24] says of widened dealings, from the last place on, so that the places ahead stay as they are."""
    told = [list(dealing) for dealing in dealings]
    for number, place in sorted(places, reverse=True):
        told[number].insert(place + 1, ("write", told[number][place][1]))
    return [tuple(dealing) for dealing in told]


def plain_fewest(dealings):
    """What [25] says, by all lists of wide places and all cuts."""
    places = plain_places(dealings)
    right = []
    for many in range(len(places) + 1):
        for row in itertools.combinations(places, many):
            if not right_cuts(plain_widened(dealings, row), ["still"] * len(dealings)):
                right.append(list(row))
    return min(right, key=lambda row: (len(row), row))


def knots(seed, times):
    """Sets of dealings that read some boxes, then write others: most of them need to be widened."""
    chance = random.Random(seed)
    for turn in range(times):
        told = []
        for number in range(chance.randint(2, 4)):
            boxes = chance.sample(range(1, 6), 3)
            many = chance.randint(1, 2)
            told.append(tuple([("read", box) for box in boxes[:many]] + [("write", box) for box in boxes[many:]]))
        yield told


class Places(unittest.TestCase):
    def test_by_hand(self):
        self.assertEqual(wide_places(texts("r1")), [(0, 0)])
        self.assertEqual(wide_places(texts("w1")), [])
        self.assertEqual(wide_places(texts("r1 w1")), [])
        self.assertEqual(wide_places(texts("r1 r2 w1")), [(0, 1)])
        self.assertEqual(wide_places(texts("w9 r1 r2 w1 r3", "w1", "r2 r3 w3", "w3 r4")), [(0, 2), (0, 4), (2, 0), (3, 1)])

    def test_another_ones_write_is_nothing_here(self):
        self.assertEqual(wide_places(texts("r1", "w1", "r1 w1")), [(0, 0)])

    def test_a_hundred(self):
        dealings = [steps("w9 r1 r2 r3 r4 r5 r6 r7")] * 100
        self.assertEqual(wide_places(dealings), [(number, place) for number in range(100) for place in range(1, 8)])

    def test_against_the_words(self):
        for dealings in random_sets(41, 200, (1, 2, 5), (1, 2, 3, 4), 8):
            told = wide_places(dealings)
            self.assertEqual(told, plain_places(dealings))
            self.assertEqual(told, sorted(told))


class Widened(unittest.TestCase):
    def test_by_hand(self):
        dealings = texts("r1 r2 w3", "r2 w2 r4")
        self.assertEqual(widened(dealings, []), dealings)
        self.assertEqual(widened(dealings, [(0, 0)]), texts("r1 w1 r2 w3", "r2 w2 r4"))
        self.assertEqual(widened(dealings, [(0, 1)]), texts("r1 r2 w2 w3", "r2 w2 r4"))
        for places in itertools.permutations([(0, 0), (0, 1), (1, 2)]):
            self.assertEqual(widened(dealings, list(places)), texts("r1 w1 r2 w2 w3", "r2 w2 r4 w4"))

    def test_none_some_and_all_in_any_order(self):
        chance = random.Random(42)
        for dealings in random_sets(43, 200, (1, 2, 4), (1, 2, 3, 4, 5), 4):
            places = wide_places(dealings)
            for many in range(len(places) + 1):
                row = chance.sample(places, many)
                told = widened(dealings, row)
                self.assertEqual(told, plain_widened(dealings, row))
                self.assertTrue(are_dealings(told))
                self.assertEqual(sorted(set(places) - set(row)) == [], wide_places(told) == [])
            self.assertEqual([reads(dealing) - writes(dealing) for dealing in widened(dealings, places)], [set()] * len(dealings))

    def test_no_places(self):
        # The places of reads are (0, 0), (0, 2), (1, 0); the first one's box is written there.
        dealings = texts("r1 w1 r2", "r1")
        self.assertEqual(widened(dealings, [(0, 2), (1, 0)]), texts("r1 w1 r2 w2", "r1 w1"))
        wrong = [
            ((0, 2),), {(0, 2)}, {(0, 2): True}, "places", (0, 2), None, True, 0, Hostile(),
            [(0, 0)], [(0, 1)], [(0, 3)], [(0, -1)], [(0, 8)], [(1, 1)], [(1, -1)], [(2, 0)], [(-1, 0)], [(100, 0)],
            [(True, 0)], [(1, False)], [(True, False)], [(False, 2)], [(0, 2.0)], [(1, None)], [("1", "0")], [(1, [0])],
            [[0, 2]], [[1, 0]], [{0: 2}], [0, 2], [(0,)], [(0, 2, 0)], [()], [None], [((0, 2),)], [[(0, 2)]], ["02"],
            [(0, 2), (0, 2)], [(1, 0), (0, 2), (1, 0)], [(1, 0), [0, 2]], [(1, 0), (0, 0)], [(1, 0), None],
            [(0, 2), Hostile()], [(0, Hostile())], [(Hostile(), 2)], [(10 ** 60, 0)], [(0, 10 ** 60)], [(0, -(10 ** 60))],
        ]
        for at, places in enumerate(wrong + things()):
            with self.assertRaises(NoPlaces, msg=at):
                widened(dealings, places)

    def test_no_room(self):
        dealings = texts("r1 r2 r3 r4 r5 w6 w7", "r1 r2 r3 r4", "r1 r2 r3 r4 r5 r6 r7 w8")
        self.assertEqual(len(widened(dealings, [(0, 4)])[0]), 8)
        self.assertEqual(len(widened(dealings, [(1, place) for place in range(4)])[1]), 8)
        for places in ([(0, 0), (0, 1)], [(2, 0)], [(1, 0), (2, 6)], [(0, 4), (1, 1), (0, 0)]):
            with self.assertRaises(NoRoom):
                widened(dealings, places)

    def test_refusals_in_their_order(self):
        for at, dealings in enumerate(no_dealings()):
            for places in ([], None, [(0, 0)], [(0, 0), (0, 0)], Hostile()):
                with self.assertRaises(NoDealings, msg=at):
                    widened(dealings, places)
            with self.assertRaises(NoDealings, msg=at):
                wide_places(dealings)
            with self.assertRaises(NoDealings, msg=at):
                fewest_wide(dealings)
        dealings = texts("r1 r2 r3 r4 r5 r6 r7 r8")
        for places in ([(0, 0), (0, 0)], [(0, 0), (0, 8)], [(0, 0), [0, 1]], ((0, 0),)):
            with self.assertRaises(NoPlaces):
                widened(dealings, places)
        with self.assertRaises(NoRoom):
            widened(dealings, [(0, 0)])


class Fewest(unittest.TestCase):
    def test_by_hand(self):
        for rows, told in (
            (("r1 w2", "r2 w1"), [(0, 0)]), (("r1 w1", "r1 w1"), []), (("r1 r2", "w1 w2"), []), (("r1", "w1"), []),
            (("r1 w2", "r2 w1", "r3 w4", "r4 w3"), [(0, 0), (2, 0)]),
            # Widened at one place, the others still go round it.
            (("r1 w2", "w1 r3", "w3 r2"), [(0, 0), (1, 1)]), (("r2 w1", "r1 r3 w2", "r2 w3"), [(0, 0), (1, 1)]),
        ):
            dealings = texts(*rows)
            self.assertEqual(plain_fewest(dealings), told, rows)
            self.assertEqual(fewest_wide(dealings), told, rows)

    def test_none_is_needed(self):
        for rows in (("r1",), ("w1",), ("r1 r2 r3", "r1 r2 r3"), ("r1 w1", "r1 w1", "r2 w2")):
            self.assertEqual(fewest_wide(texts(*rows)), [])

    def test_against_all_lists(self):
        found = set()
        sets = list(random_sets(44, 250, (2, 3), (1, 2, 3), 4)) + list(random_sets(45, 250, (3, 4), (1, 2, 3, 4), 3))
        for dealings in sets + list(knots(46, 120)) + small_sets()[:8]:
            places = plain_places(dealings)
            if len(places) > 8 or any(len(dealing) > 8 for dealing in plain_widened(dealings, places)):
                continue
            told = fewest_wide(dealings)
            self.assertEqual(told, plain_fewest(dealings))
            self.assertTrue(safe(widened(dealings, told), ["still"] * len(dealings)))
            found.add(len(told))
        self.assertLessEqual({0, 1, 2}, found)

    def test_the_first_of_several(self):
        # Either one of the two is enough.
        self.assertEqual(fewest_wide(texts("r1 w2", "r2 w1")), [(0, 0)])
        self.assertEqual(fewest_wide(texts("r5 w1", "r1 w2", "r2 w1")), [(1, 0)])
        self.assertEqual(fewest_wide(texts("r9 r1 w2", "r8 r2 w1")), [(0, 1)])

    def test_eight_and_nine(self):
        pairs = texts("r1 w2", "r2 w1", "r3 w4", "r4 w3", "r5 w6", "r6 w5", "r7 w8", "r8 w7")
        self.assertEqual(len(wide_places(pairs)), 8)
        self.assertEqual(fewest_wide(pairs), [(0, 0), (2, 0), (4, 0), (6, 0)])
        self.assertEqual(fewest_wide(pairs + texts("r9 w9", "w1")), [(0, 0), (2, 0), (4, 0), (6, 0)])
        for more in ("r9", "r1", "r9 r8 r7"):
            with self.assertRaises(TooMany):
                fewest_wide(pairs + texts(more))
        with self.assertRaises(TooMany):
            fewest_wide([steps("r1 r2 r3 r4 r5 r6 r7 r8")] * 100)

    def test_no_room(self):
        self.assertEqual(fewest_wide(texts("r1 r2 r3 r4")), [])
        self.assertEqual(fewest_wide(texts("r1 r2 r3 w4 w5")), [])
        # Refused so, though none would be needed.
        for row in ("r1 r2 r3 r4 r5", "r1 r2 r3 r4 r5 r6 r7 r8", "r1 w2 w3 w4 w5 w6 w7 w8", "r1 r2 w3 w4 w5 w6 w7"):
            with self.assertRaises(NoRoom):
                fewest_wide(texts(row))
        # More than eight come ahead of no room.
        with self.assertRaises(TooMany):
            fewest_wide(texts("r1 r2 r3 r4 r5", "r1 r2 r3 r4"))

    def test_a_hundred(self):
        ring = [(("read", number), ("write", (number + 1) % 8)) for number in range(8)]
        dealings = ring + [(("read", 200 + at), ("write", 200 + at), ("write", at % 8)) for at in range(92)]
        told = fewest_wide(dealings)
        self.assertTrue(safe(widened(dealings, told), ["still"] * 100))
        for left_out in range(len(told)):
            fewer = told[:left_out] + told[left_out + 1:]
            self.assertFalse(safe(widened(dealings, fewer), ["still"] * 100))


class Handed(unittest.TestCase):
    def test_by_name(self):
        dealings = texts("r1 w2", "r2 w1")
        self.assertEqual(wide_places(dealings=dealings), [(0, 0), (1, 0)])
        self.assertEqual(widened(places=[(0, 0)], dealings=dealings), texts("r1 w1 w2", "r2 w1"))
        self.assertEqual(fewest_wide(dealings=dealings), [(0, 0)])

    def test_the_interface(self):
        for name, names in (
            ("wide_places", ["dealings"]), ("widened", ["dealings", "places"]), ("fewest_wide", ["dealings"]),
        ):
            asked = getattr(wide, name)
            self.assertEqual(list(inspect.signature(asked).parameters), names)
            self.assertEqual(asked.__module__, "asifalone.wide")

    def test_told_lists_are_new_and_nothing_is_changed(self):
        dealings, places = texts("r1 w2", "r2 w1"), [(1, 0), (0, 0)]
        before = copy.deepcopy((dealings, places))
        for turn in range(2):
            for told in (wide_places(dealings), widened(dealings, places), fewest_wide(dealings)):
                self.assertIs(type(told), list)
                self.assertTrue(all(type(row) is tuple for row in told))
                told.append("spoilt")
            none = widened(dealings, [])
            self.assertEqual(none, dealings)
            none.clear()
        self.assertEqual((dealings, places), before)
        self.assertEqual(wide_places(dealings), [(0, 0), (1, 0)])
        self.assertEqual(fewest_wide(dealings), [(0, 0)])


if __name__ == "__main__":
    unittest.main()
