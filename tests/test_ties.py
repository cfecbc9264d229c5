"""[14] to [16]: ties, rings, orders; [3] of them; [2] of their refusals."""

import itertools
import random
import unittest

from anything import Hostile, PlainRun, all_levels, all_weavings, random_sets, random_weaving, steps, things
from asifalone.errors import Barred, NoNumber, NoOrder, NoTie
from asifalone.runs import Run, barred, ring_fault, same
from asifalone.weavings import one_by_one

KINDS = ("over", "from", "past")


def texts(*rows):
    """The dealings of these texts."""
    return [steps(row) for row in rows]


def wheel(many):
    """A run in which each of so many dealings is past the one ahead of it, round about."""
    dealings = [(("read", number), ("write", (number + 1) % many)) for number in range(many)]
    return Run(dealings, ["still"] * many, list(range(many)) * 3)


def some_runs(seed, times, sizes=(2, 3, 4), boxes=(1, 2, 3), most=4):
    """Runs of weavings that are let by, and what the words say of each, by a seeded source of chance."""
    chance = random.Random(seed)
    for dealings in random_sets(seed + 1, times, sizes, boxes, most):
        levels = [chance.choice(("lax", "lax", "still", "whole")) for dealing in dealings]
        weaving = random_weaving(chance, dealings)
        if barred(dealings, levels, weaving) is None:
            yield Run(dealings, levels, weaving), PlainRun(dealings, levels, weaving)


class Ties(unittest.TestCase):
    def test_each_kind(self):
        run = Run(texts("r1 w2", "w1 w2", "r2"), ["lax"] * 3, [0, 1, 1, 1, 2, 0, 0, 2])
        self.assertEqual(run.ties(), [
            (0, 1, "past", 1), (1, 0, "over", 2), (1, 2, "from", 2), (2, 0, "past", 2),
        ])
        self.assertEqual(run.ties(kind="over"), [(1, 0, "over", 2)])
        self.assertEqual(run.ties(kind="from"), [(1, 2, "from", 2)])
        self.assertEqual(run.ties(kind="past"), [(0, 1, "past", 1), (2, 0, "past", 2)])
        self.assertEqual(run.ties(kind=None), run.ties())

    def test_from_all_up_to_the_one_seen_and_past_all_newer(self):
        run = Run(texts("w1", "w1", "r1", "w1", "w1"), ["lax"] * 5, [0, 0, 1, 1, 2, 2, 3, 3, 4, 4])
        self.assertEqual(run.ties(kind="from"), [(0, 2, "from", 1), (1, 2, "from", 1)])
        self.assertEqual(run.ties(kind="past"), [(2, 3, "past", 1), (2, 4, "past", 1)])
        pairs = itertools.combinations((0, 1, 3, 4), 2)
        self.assertEqual(run.ties(kind="over"), [(one, other, "over", 1) for one, other in pairs])

    def test_no_tie_with_itself(self):
        run = Run(texts("r1 w1", "r2"), ["whole", "lax"], [0, 1, 0, 0, 1])
        self.assertEqual(run.ties(), [])

    def test_two_that_read_and_write_the_same(self):
        run = Run(texts("r1 w1", "r1 w1"), ["whole", "whole"], [1, 1, 1, 0, 0, 0])
        self.assertEqual(run.ties(), [(1, 0, "from", 1), (1, 0, "over", 1), (1, 0, "past", 1)])

    def test_sorted_as_tuples(self):
        dealings = [steps("r3 w12 w4 w100")] * 12
        run = Run(dealings, ["lax"] * 12, [number for number in range(12) for turn in range(5)])
        told = run.ties()
        self.assertEqual(told, sorted(told))
        self.assertEqual(told[:3], [(0, 1, "over", 4), (0, 1, "over", 12), (0, 1, "over", 100)])
        self.assertEqual([tie[1] for tie in told[::3]][:11], list(range(1, 12)))
        self.assertEqual(len(told), 3 * 66)
        self.assertEqual(len(set(told)), len(told))

    def test_against_the_words(self):
        kinds = set()
        for run, plain in some_runs(21, 1500):
            told = plain.ties()
            self.assertEqual(run.ties(), told)
            for kind in KINDS:
                self.assertEqual(run.ties(kind=kind), [tie for tie in told if tie[2] == kind])
            kinds |= {tie[2] for tie in told}
        self.assertEqual(kinds, set(KINDS))

    def test_no_tie(self):
        run = wheel(3)
        wrong = [thing for thing in things() if thing is not None]
        wrong += ["Over", "overs", "ov", "", "from ", ("over",), ["over"], {"over": 1}, {"over"}, b"over", 0, Hostile()]
        for at, kind in enumerate(wrong):
            with self.assertRaises(NoTie, msg=at):
                run.ties(kind=kind)

    def test_ties_are_tuples_of_whole_numbers_and_texts(self):
        for tie in wheel(3).ties():
            self.assertEqual([type(part) for part in tie], [int, int, str, int])


class Rings(unittest.TestCase):
    def check_ring(self, run, ring):
        """Whether this is a ring of ties of the run, without the program's help."""
        ties = run.ties()
        self.assertGreaterEqual(len(ring), 2)
        for place, tie in enumerate(ring):
            self.assertIn(tie, ties)
            self.assertEqual(ring[place - 1][1], tie[0])
        self.assertEqual(len({tie[0] for tie in ring}), len(ring))

    def test_wheels(self):
        for many in (2, 3, 4, 8, 9, 13, 40, 100):
            run = wheel(many)
            self.check_ring(run, run.ring())
            self.assertEqual(len(run.ring()), many)
            for through in (0, 1, many // 2, many - 1):
                ring = run.ring(through=through)
                self.check_ring(run, ring)
                self.assertEqual(len(ring), many)
                self.assertIn(through, [tie[0] for tie in ring])

    def test_none(self):
        run = Run(texts("r1 w2", "r2 w1"), ["lax", "lax"], [0, 0, 0, 1, 1, 1])
        self.assertIsNone(run.ring())
        self.assertIsNone(run.ring(through=0))
        self.assertIsNone(run.ring(through=1))
        run = Run(texts("r1"), ["lax"], [0, 0])
        self.assertIsNone(run.ring())
        self.assertIsNone(run.ring(through=0))

    def test_through_one_in_a_longer_ring(self):
        # 0 and 1 are a ring of two; 2, 3, 4 are one of three; 5 is in none, though tied.
        dealings = texts("r1 w2", "r2 w1", "r3 w4", "r4 w5", "r5 w3", "r1 w7")
        weaving = [number for turn in range(3) for number in range(6)]
        run = Run(dealings, ["still"] * 6, weaving)
        self.assertEqual(len(run.ring()), 2)
        for through, many in enumerate((2, 2, 3, 3, 3)):
            ring = run.ring(through=through)
            self.check_ring(run, ring)
            self.assertEqual(len(ring), many)
            self.assertIn(through, [tie[0] for tie in ring])
        self.assertIsNone(run.ring(through=5))
        self.assertEqual(len(run.ring(through=None)), 2)

    def test_a_shorter_ring_behind_longer_ones(self):
        for sizes in ((3, 2), (4, 3, 2), (5, 3), (3, 5, 4), (2, 3)):
            dealings = []
            for turn, many in enumerate(sizes):
                box = 10 * turn
                dealings += [(("read", box + at), ("write", box + (at + 1) % many)) for at in range(many)]
            run = Run(dealings, ["still"] * len(dealings), list(range(len(dealings))) * 3)
            self.assertEqual(len(run.ring()), min(sizes))
            self.check_ring(run, run.ring())

    def test_against_all_rings(self):
        sizes = set()
        for run, plain in some_runs(31, 1200, sizes=(2, 3, 4, 5), boxes=(1, 2, 3, 4), most=3):
            told = plain.ring_sizes()
            for number in range(len(run.dealings)):
                ring = run.ring(through=number)
                if ring is None:
                    self.assertNotIn(number, told)
                else:
                    self.check_ring(run, ring)
                    self.assertEqual(len(ring), told[number])
                    self.assertIn(number, [tie[0] for tie in ring])
            ring = run.ring()
            self.assertEqual(None if ring is None else len(ring), min(told.values(), default=None))
            if ring is not None:
                self.check_ring(run, ring)
                sizes.add(len(ring))
        self.assertLessEqual({2, 3}, sizes)

    def test_no_number(self):
        run = wheel(3)
        wrong = [thing for thing in things() if thing is not None]
        for at, thing in enumerate(wrong + [-1, 3, 100, True, False, 1.0, "0", [0], (0,), {0}, {}, Hostile()]):
            with self.assertRaises(NoNumber, msg=at):
                run.ring(through=thing)

    def test_a_hundred_without_a_ring(self):
        dealings = [steps("r1 w1 r2 w2 r3 w3 r4 w4")] * 100
        run = Run(dealings, ["whole"] * 100, [number for number in range(100) for turn in range(9)])
        self.assertIsNone(run.ring())
        self.assertEqual(run.order(), list(range(100)))


class RingFaults(unittest.TestCase):
    def test_told_rings(self):
        for many in (2, 3, 4, 9):
            run = wheel(many)
            ring = run.ring()
            for turn in range(many):
                self.assertIsNone(ring_fault(run, ring[turn:] + ring[:turn]))

    def test_form(self):
        run = wheel(3)
        ring = run.ring()
        wrong = things() + [
            [], ring[:1], tuple(ring), {0: ring[0], 1: ring[1], 2: ring[2]}, ring + [None], [list(tie) for tie in ring],
            ring + [()], ring + [(0, 1, "past")], ring + [(0, 1, "past", 1, 1)], [None] + ring, [ring, ring],
            ring[:2] + [list(ring[2])], [ring[0][:3]] + ring[1:], iter(ring), "ring", [(0, 1, "past", 1)],
        ]
        for at, thing in enumerate(wrong):
            self.assertEqual(ring_fault(run, thing), "form", at)

    def test_form_comes_ahead_of_places(self):
        run = wheel(3)
        self.assertEqual(ring_fault(run, [(9, 9, 9, 9), None]), "form")

    def test_one_thing_otherwise_at_each_place(self):
        for many in (2, 3, 5):
            run = wheel(many)
            ring = run.ring()
            for place in range(many):
                one, other, kind, box = ring[place]
                others = [(one, other, kind, box + 50), (one, other, "over", box), (one, other, "from", box)]
                others += [(one, other, wrong, box) for wrong in ("", None, ["past"], Hostile(), b"past", 0)]
                others += [(one, other, kind, wrong) for wrong in ([1], None, "1", float(box), -1, Hostile())]
                for wrong in others:
                    thing = ring[:place] + [wrong] + ring[place + 1:]
                    self.assertEqual(ring_fault(run, thing), place)
                for wrong in (many, -1, None, [0], "0", 0.5, Hostile()):
                    thing = ring[:place] + [(wrong, other, kind, box)] + ring[place + 1:]
                    self.assertEqual(ring_fault(run, thing), place)
                    # At place 0 its one isn't the other of the last one.
                    thing = ring[:place] + [(one, wrong, kind, box)] + ring[place + 1:]
                    self.assertEqual(ring_fault(run, thing), 0 if place == many - 1 else place)

    def test_truths_are_no_numbers(self):
        run = Run(texts("r0 w1", "r1 w0"), ["still", "still"], [0, 1, 0, 1, 0, 1])
        self.assertIsNone(ring_fault(run, [(0, 1, "past", 0), (1, 0, "past", 1)]))
        self.assertEqual(ring_fault(run, [(False, 1, "past", 0), (1, 0, "past", 1)]), 0)
        self.assertEqual(ring_fault(run, [(0, 1, "past", 0), (True, 0, "past", 1)]), 1)
        self.assertEqual(ring_fault(run, [(0, 1, "past", 0), (1, 0, "past", True)]), 1)
        self.assertEqual(ring_fault(run, [(0, 1.0, "past", 0), (1, 0, "past", 1)]), 0)

    def test_a_last_one_with_the_right_other_is_at_fault_itself(self):
        run = wheel(3)
        ring = run.ring()
        self.assertEqual(ring_fault(run, ring[:2] + [ring[2][:2] + ("none", None)]), 2)

    def test_ties_that_do_not_follow(self):
        run = wheel(4)
        ring = run.ring()
        self.assertEqual(ring_fault(run, [ring[0], ring[2], ring[3]]), 1)
        self.assertEqual(ring_fault(run, ring[:3]), 0)
        self.assertEqual(ring_fault(run, ring[1:]), 0)
        self.assertEqual(ring_fault(run, ring[::-1]), 0)
        self.assertEqual(ring_fault(run, [ring[0], ring[1], ring[3], ring[2], ring[3]]), 2)

    def test_a_number_that_stands_as_one_ahead(self):
        run = wheel(3)
        ring = run.ring()
        self.assertEqual(ring_fault(run, ring + ring), 3)
        # Two rings of two that meet in 0.
        run = Run(texts("r1 r2 w3 w4", "r3 w1", "r4 w2"), ["still"] * 3, [0, 0, 1, 2, 1, 2, 0, 0, 1, 2, 0])
        first, second = run.ring(through=1), run.ring(through=2)
        first = first if first[0][0] == 0 else first[::-1]
        second = second if second[0][0] == 0 else second[::-1]
        self.assertIsNone(ring_fault(run, first))
        self.assertIsNone(ring_fault(run, second))
        self.assertEqual(ring_fault(run, first + second), 2)
        self.assertEqual(ring_fault(run, first[1:] + second + first[:1]), 3)

    def test_each_list_of_ties(self):
        for run, plain in some_runs(41, 300, sizes=(2, 3), boxes=(1, 2), most=3):
            ties = plain.ties()[:7] + [(0, 1, "past", 77)]
            for many in (1, 2, 3):
                for thing in itertools.product(ties, repeat=many):
                    told = "form" if many < 2 else None
                    for place in reversed(range(many) if many > 1 else ()):
                        tie = thing[place]
                        ahead = [other[0] for other in thing[:place]]
                        if tie[3] == 77 or thing[place - 1][1] != tie[0] or tie[0] in ahead:
                            told = place
                    self.assertEqual(ring_fault(run, list(thing)), told)


class Orders(unittest.TestCase):
    def test_the_first_as_lists_go(self):
        run = Run(texts("r1", "w2", "w1", "r2"), ["lax"] * 4, [2, 2, 0, 0, 1, 3, 3, 1])
        # 2 is ahead of 0, 3 ahead of 1.
        self.assertEqual(run.order(), [2, 0, 3, 1])
        run = Run(texts("r1", "r2", "r3"), ["lax"] * 3, [2, 2, 1, 1, 0, 0])
        self.assertEqual(run.order(), [0, 1, 2])

    def test_numbers_above_nine(self):
        dealings = texts(*["r1"] * 11, "w1", "r5")
        rest = [number for number in range(11) for turn in range(2)]
        run = Run(dealings, ["lax"] * 13, [11, 11] + rest + [12, 12])
        self.assertEqual(run.order(), [11] + list(range(11)) + [12])
        run = Run(dealings, ["lax"] * 13, rest + [11, 11, 12, 12])
        self.assertEqual(run.order(), list(range(13)))

    def test_against_all_orders(self):
        found = set()
        for run, plain in some_runs(51, 700):
            many = len(run.dealings)
            told = None
            for order in itertools.permutations(range(many)):
                if all(order.index(tie[0]) < order.index(tie[1]) for tie in plain.ties()):
                    told = list(order)
                    break
            self.assertEqual(run.order(), told)
            self.assertIs(run.order() is None, run.ring() is not None)
            found.add(told is None)
        self.assertEqual(found, {True, False})

    def test_same_by_each_order(self):
        found = set()
        for run, plain in some_runs(61, 500):
            for order in itertools.permutations(range(len(run.dealings))):
                other = PlainRun(run.dealings, run.levels, one_by_one(run.dealings, list(order)))
                self.assertIsNone(other.fault)
                told = other.saw == plain.saw
                told = told and all(other.all_versions(box) == plain.all_versions(box) for box in range(5))
                self.assertIs(same(run, list(order)), told)
                found.add(told)
            if run.ring() is None:
                self.assertIs(same(run, run.order()), True)
        self.assertEqual(found, {True, False})

    def test_same_by_what_is_left_alone(self):
        run = Run(texts("w1", "w1"), ["lax", "lax"], [1, 1, 0, 0])
        self.assertIs(same(run, [1, 0]), True)
        self.assertIs(same(run, [0, 1]), False)
        run = Run(texts("r1", "w1"), ["lax", "lax"], [0, 1, 1, 0])
        self.assertIs(same(run, [0, 1]), True)
        self.assertIs(same(run, [1, 0]), False)

    def test_no_order(self):
        run = Run(texts("r1", "w1", "r2"), ["lax"] * 3, [0, 0, 1, 1, 2, 2])
        wrong = things() + [
            [], [0], [0, 1], [0, 1, 2, 2], [0, 0, 1], [0, 1, 3], (0, 1, 2), [0, True, 2], [0, 1.0, 2], "012", [[0, 1, 2]],
            {0, 1, 2}, [0, 1, Hostile()], [-1, 0, 1],
        ]
        for at, order in enumerate(wrong):
            with self.assertRaises(NoOrder, msg=at):
                same(run, order)
        run = wheel(3)
        self.assertIsNone(run.order())
        with self.assertRaises(NoOrder):
            same(run, run.order())

    def test_a_hundred(self):
        dealings = [(("read", number), ("write", number + 1)) for number in range(100)]
        falling = [number for number in range(99, -1, -1) for turn in range(3)]
        run = Run(dealings, ["still"] * 100, falling)
        self.assertEqual(run.order(), list(range(99, -1, -1)))
        self.assertIs(same(run, run.order()), True)
        self.assertIs(same(run, list(range(100))), False)


class Promise(unittest.TestCase):
    """[3]: what is let by and has no ring is the same by the told order; a ring just where it is by none."""

    def small(self):
        """All dealings of one or two steps on two boxes."""
        every = [(word, box) for word in ("read", "write") for box in (1, 2)]
        told = [(step,) for step in every]
        for one, other in itertools.permutations(every, 2):
            if not (one[0] == "write" and other == ("read", one[1])):
                told.append((one, other))
        return told

    def test_every_weaving_of_two_at_all_levels(self):
        found = set()
        for dealings in itertools.combinations_with_replacement(self.small(), 2):
            dealings = list(dealings)
            rows = all_weavings(dealings)
            for levels in all_levels(2):
                for weaving in rows:
                    try:
                        run = Run(dealings, levels, weaving)
                    except Barred:
                        continue
                    ring = run.ring()
                    by_one = same(run, [0, 1]) or same(run, [1, 0])
                    self.assertIs(ring is None, by_one)
                    found.add(by_one)
                    if ring is None:
                        self.assertIs(same(run, run.order()), True)
        self.assertEqual(found, {True, False})

    def test_every_weaving_of_longer_ones(self):
        for rows in (("r1 w1 r2", "w2 r1 w3"), ("r1 r2 w1", "r2 w2 r1"), ("r1 r2 r3", "w1 w2 w3")):
            dealings = texts(*rows)
            for levels in all_levels(2):
                for weaving in all_weavings(dealings):
                    if barred(dealings, levels, weaving) is None:
                        run = Run(dealings, levels, weaving)
                        self.assertIs(run.ring() is None, same(run, [0, 1]) or same(run, [1, 0]))

    def test_three_by_chance(self):
        for run, plain in some_runs(71, 600, sizes=(3,)):
            orders = itertools.permutations(range(3))
            self.assertIs(run.ring() is None, any(same(run, list(order)) for order in orders))


if __name__ == "__main__":
    unittest.main()
