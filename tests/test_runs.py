"""[11] to [13]: what reads see, what is barred, and runs; [2] and [7] of all of them."""

import copy
import inspect
import itertools
import random
import unittest

from anything import Hostile, PlainRun, all_levels, all_weavings, full_set, no_dealings, no_levels, random_sets
from anything import random_weaving, small_sets, steps, things
from asifalone import runs
from asifalone.errors import AloneError, Barred, NoBox, NoDealings, NoLevels, NoNumber, NoTie, NoWeaving
from asifalone.runs import Run, barred, ring_fault, same

BOX = 10 ** 8


def texts(*rows):
    """The dealings of these texts."""
    return [steps(row) for row in rows]


def all_of(level, dealings):
    """This level for each."""
    return [level] * len(dealings)


class Seen(unittest.TestCase):
    def test_what_ends_between_two_reads(self):
        dealings = texts("r1 r2", "w1 w2")
        weaving = [0, 1, 1, 1, 0, 0]
        self.assertEqual(Run(dealings, ["lax", "lax"], weaving).seen(), [(0, 1, -1), (0, 2, 1)])
        for level in ("still", "whole"):
            for other in ("lax", "still", "whole"):
                self.assertEqual(Run(dealings, [level, other], weaving).seen(), [(0, 1, -1), (0, 2, -1)])

    def test_what_is_written_but_not_ended_is_not_seen(self):
        dealings = texts("r1 r2", "w1 w2")
        for levels in all_levels(2):
            self.assertEqual(Run(dealings, levels, [1, 1, 0, 0, 1, 0]).seen(), [(0, 1, -1), (0, 2, -1)])
            self.assertEqual(Run(dealings, levels, [1, 1, 1, 0, 0, 0]).seen(), [(0, 1, 1), (0, 2, 1)])

    def test_the_begin_is_the_first_step_whatever_it_is(self):
        dealings = texts("w9 r1", "w1")
        self.assertEqual(Run(dealings, ["lax", "lax"], [0, 1, 1, 0, 0]).seen(), [(0, 1, 1)])
        self.assertEqual(Run(dealings, ["still", "lax"], [0, 1, 1, 0, 0]).seen(), [(0, 1, -1)])
        self.assertEqual(Run(dealings, ["whole", "lax"], [1, 0, 1, 0, 0]).seen(), [(0, 1, -1)])
        self.assertEqual(Run(dealings, ["still", "lax"], [1, 1, 0, 0, 0]).seen(), [(0, 1, 1)])

    def test_the_newest_of_several(self):
        dealings = texts("r5 r1", "w1", "w1", "w1")
        weaving = [1, 1, 2, 2, 0, 3, 3, 0, 0]
        self.assertEqual(Run(dealings, ["lax"] * 4, weaving).seen(), [(0, 5, -1), (0, 1, 3)])
        self.assertEqual(Run(dealings, ["still"] * 4, weaving).seen(), [(0, 5, -1), (0, 1, 2)])
        self.assertEqual(Run(dealings, ["whole"] * 4, weaving).versions(1), [-1, 1, 2, 3])

    def test_ended_and_versions(self):
        dealings = texts("w1 w0", "r1 w2", "w100000000 w1")
        weaving = [1, 2, 1, 1, 2, 2, 0, 0, 0]
        run = Run(dealings, ["lax", "still", "whole"], weaving)
        self.assertEqual(run.ended(), [1, 2, 0])
        self.assertEqual(run.seen(), [(1, 1, -1)])
        for box, told in ((0, [-1, 0]), (1, [-1, 2, 0]), (2, [-1, 1]), (BOX, [-1, 2]), (3, [-1]), (BOX - 1, [-1])):
            self.assertEqual(run.versions(box), told)

    def test_versions_stand_in_the_order_of_the_ends(self):
        dealings = texts("w1", "w1", "w1")
        for order in itertools.permutations(range(3)):
            weaving = [number for number in order for turn in range(2)]
            for levels in (["lax"] * 3, ["whole"] * 3):
                self.assertEqual(Run(dealings, levels, weaving).versions(1), [-1] + list(order))

    def test_no_box(self):
        run = Run(texts("r1"), ["lax"], [0, 0])
        for at, thing in enumerate(things() + [BOX + 1, -1, True, False, 1.0, "1", [1], (1,), {1: 1}, None]):
            with self.assertRaises(NoBox, msg=at):
                run.versions(thing)


class HeldAndLate(unittest.TestCase):
    def test_held(self):
        dealings = texts("w1", "w1")
        for levels in all_levels(2):
            self.assertEqual(barred(dealings, levels, [0, 1, 0, 1]), (1, "held", 0))
            self.assertEqual(barred(dealings, levels, [1, 0, 0, 1]), (1, "held", 1))
            self.assertIsNone(barred(dealings, levels, [0, 0, 1, 1]))
            self.assertIsNone(barred(dealings, levels, [1, 1, 0, 0]))

    def test_held_by_the_one_of_this_box(self):
        dealings = texts("w1 w5", "w2 w6", "w3 w6 w1")
        for level in ("lax", "still", "whole"):
            levels = [level] * 3
            self.assertEqual(barred(dealings, levels, [0, 1, 1, 2, 2, 2, 2, 0, 0, 1]), (4, "held", 1))
            self.assertEqual(barred(dealings, levels, [0, 2, 2, 2, 2, 0, 0, 1, 1, 1]), (3, "held", 0))

    def test_reads_are_never_barred(self):
        dealings = texts("w1", "r1")
        for levels in all_levels(2):
            for weaving in all_weavings(dealings):
                self.assertIsNone(barred(dealings, levels, weaving))

    def test_late(self):
        dealings = texts("r1 w1", "w1")
        weaving = [0, 1, 1, 0, 0]
        for other in ("lax", "still", "whole"):
            self.assertIsNone(barred(dealings, ["lax", other], weaving))
            self.assertEqual(barred(dealings, ["still", other], weaving), (3, "late", 1))
            self.assertEqual(barred(dealings, ["whole", other], weaving), (3, "late", 1))
            self.assertIsNone(barred(dealings, ["whole", other], [1, 1, 0, 0, 0]))
            self.assertIsNone(barred(dealings, ["whole", other], [0, 0, 0, 1, 1]))

    def test_not_late_where_it_begins_with_this_write(self):
        dealings = texts("w1 r2", "w1")
        for levels in all_levels(2):
            self.assertIsNone(barred(dealings, levels, [1, 1, 0, 0, 0]))

    def test_late_only_by_ends_behind_the_begin(self):
        dealings = texts("r9 w1", "w1 w3", "w1")
        self.assertEqual(barred(dealings, ["still"] * 3, [1, 1, 0, 1, 0, 0, 2, 2]), (4, "late", 1))
        self.assertIsNone(barred(dealings, ["still"] * 3, [1, 1, 1, 0, 0, 0, 2, 2]))

    def test_late_by_the_newest_one(self):
        dealings = texts("r9 w1", "w1", "w1")
        for level in ("still", "whole"):
            for first, second in ((1, 2), (2, 1)):
                weaving = [0, first, first, second, second, 0, 0]
                self.assertEqual(barred(dealings, [level] * 3, weaving), (5, "late", second))
                weaving = [first, first, 0, second, second, 0, 0]
                self.assertEqual(barred(dealings, [level] * 3, weaving), (5, "late", second))

    def test_held_ahead_of_late(self):
        dealings = texts("r9 w1", "w1", "w1")
        for level in ("still", "whole"):
            self.assertEqual(barred(dealings, [level] * 3, [0, 1, 1, 2, 0, 0, 2]), (4, "held", 2))
        self.assertEqual(barred(dealings, ["lax"] * 3, [0, 1, 1, 2, 0, 0, 2]), (4, "held", 2))

    def test_the_first_one_of_several(self):
        dealings = texts("r1 w1", "r1 w1", "w1 w2", "w2")
        weaving = [0, 1, 2, 2, 2, 0, 1, 0, 1, 3, 3]
        self.assertEqual(barred(dealings, ["still"] * 4, weaving), (5, "late", 2))
        self.assertEqual(barred(dealings, ["lax", "still", "lax", "lax"], weaving), (6, "held", 0))
        weaving = [2, 2, 3, 2, 0, 1, 0, 1, 0, 1, 3]
        self.assertEqual(barred(dealings, ["still"] * 4, weaving), (2, "held", 2))


class Chains(unittest.TestCase):
    def test_of_two(self):
        dealings = texts("r1 w2", "r2 w1")
        for levels in all_levels(2):
            told = levels == ["whole", "whole"]
            self.assertEqual(barred(dealings, levels, [0, 1, 0, 1, 0, 1]), (5, "chain", 1) if told else None)
            self.assertEqual(barred(dealings, levels, [0, 1, 0, 1, 1, 0]), (5, "chain", 0) if told else None)
            self.assertIsNone(barred(dealings, levels, [0, 0, 0, 1, 1, 1]))
            self.assertEqual(barred(dealings, levels, [0, 0, 1, 0, 1, 1]), (5, "chain", 1) if told else None)

    def test_of_three(self):
        # y is 0, z is 1, x is 2.
        dealings = texts("r2 w1", "w2", "r1")
        for levels in all_levels(3):
            told = (6, "chain", 0) if levels == ["whole"] * 3 else None
            self.assertEqual(barred(dealings, levels, [0, 1, 1, 0, 2, 2, 0]), told)
            self.assertEqual(barred(dealings, levels, [0, 1, 1, 0, 2, 0, 2]), told)
            self.assertEqual(barred(dealings, levels, [0, 2, 1, 1, 2, 0, 0]), told)
            self.assertEqual(barred(dealings, levels, [2, 0, 1, 1, 0, 0, 2]), told)

    def test_of_three_by_the_number_of_the_middle(self):
        rows = {"y": steps("r2 w1"), "z": steps("w2"), "x": steps("r1")}
        for names in itertools.permutations("xyz"):
            dealings = [rows[name] for name in names]
            weaving = [names.index(name) for name in "yzzyxxy"]
            self.assertEqual(barred(dealings, ["whole"] * 3, weaving), (6, "chain", names.index("y")))
            weaving = [names.index(name) for name in "yzzyxyx"]
            self.assertEqual(barred(dealings, ["whole"] * 3, weaving), (6, "chain", names.index("y")))

    def test_ends_in_another_order(self):
        dealings = texts("r2 w1", "w2", "r1")
        # x ends ahead of z; x begins behind y's end; z ends behind y; z ends ahead of y's begin; x ends ahead of
        # y's begin.
        for weaving in (
            [0, 2, 2, 1, 1, 0, 0], [0, 1, 1, 0, 0, 2, 2], [0, 1, 0, 2, 0, 1, 2], [1, 1, 0, 0, 2, 2, 0],
            [2, 2, 0, 1, 1, 0, 0], [0, 0, 2, 0, 1, 1, 2], [0, 1, 2, 0, 0, 2, 1],
        ):
            self.assertIsNone(barred(dealings, ["whole"] * 3, weaving), weaving)

    def test_boxes_must_meet(self):
        weaving = [0, 1, 1, 0, 2, 2, 0]
        for rows in (("r2 w1", "w3", "r1"), ("r3 w1", "w2", "r1"), ("r2 w3", "w2", "r1"), ("r2 w1", "w2", "r3")):
            self.assertIsNone(barred(texts(*rows), ["whole"] * 3, weaving))

    def test_what_was_seen_is_as_of_the_begin(self):
        # z ended ahead of y's begin, so y saw its version, though y reads behind other ends.
        dealings = texts("r9 r2 w1", "w2", "r1")
        self.assertIsNone(barred(dealings, ["whole"] * 3, [1, 1, 0, 0, 0, 2, 2, 0]))
        self.assertEqual(barred(dealings, ["whole"] * 3, [0, 1, 1, 0, 0, 2, 2, 0]), (7, "chain", 0))

    def test_the_least_middle_where_x_ends_last(self):
        dealings = texts("w2", "r2 w1", "r2 w3", "r1 r3")
        for order in ((1, 2), (2, 1)):
            first, second = order
            weaving = [first, second, 0, 0, 1, 2, 3, first, second, 3, 3]
            self.assertEqual(barred(dealings, ["whole"] * 4, weaving), (10, "chain", 1))
            self.assertEqual(barred(dealings, ["whole", "lax", "whole", "whole"], weaving), (10, "chain", 2))
            self.assertIsNone(barred(dealings, ["whole", "lax", "still", "whole"], weaving))

    def test_the_least_middle_where_the_last_one_is_one_itself(self):
        # The last to end is y of a chain, and x of another one.
        for names, by in (("abcd", 0), ("badc", 1), ("dcba", 1), ("cdab", 0)):
            rows = {"a": steps("r1 r2 w5"), "b": steps("w1"), "c": steps("r3 w2"), "d": steps("w3")}
            dealings = [rows[name] for name in names]
            weaving = [names.index(name) for name in "acbbddccaaa"]
            self.assertIsNone(barred(dealings, ["whole" if name != "c" else "lax" for name in names], weaving))
            told = barred(dealings, ["whole"] * 4, weaving)
            self.assertEqual(told, (10, "chain", names.index("c")))
            rows["c"] = steps("r3 r5 w2")
            dealings = [rows[name] for name in names]
            weaving = [names.index(name) for name in "accbbddccaaa"]
            told = barred(dealings, ["whole"] * 4, weaving)
            self.assertEqual(told, (11, "chain", min(names.index("a"), names.index("c"))))
            self.assertEqual(told[2], by)

    def test_a_chain_at_an_end_comes_behind_what_is_barred_ahead(self):
        dealings = texts("r1 w2", "r2 w1", "w3", "w3")
        self.assertEqual(barred(dealings, ["whole"] * 4, [0, 1, 0, 1, 2, 3, 0, 1, 2, 3]), (5, "held", 2))
        self.assertEqual(barred(dealings, ["whole"] * 4, [0, 1, 0, 1, 2, 0, 1, 3, 2, 3]), (6, "chain", 1))


class AgainstTheWords(unittest.TestCase):
    """Against the clauses of [11] and [12], gone over word by word."""

    def check(self, dealings, levels, weaving):
        plain = PlainRun(dealings, levels, weaving)
        self.assertEqual(barred(dealings, levels, weaving), plain.fault, (dealings, levels, weaving))
        if plain.fault is not None:
            with self.assertRaises(Barred) as caught:
                Run(dealings, levels, weaving)
            told = caught.exception
            self.assertEqual((told.place, told.why, told.by), plain.fault)
            return plain.fault[1]
        run = Run(dealings, levels, weaving)
        self.assertEqual(run.seen(), plain.reads)
        self.assertEqual(run.ended(), plain.ended())
        for box in range(8):
            self.assertEqual(run.versions(box), plain.all_versions(box))
        return None

    def test_every_weaving_of_two(self):
        for rows in (("r1 w2", "r2 w1"), ("r1 w1", "w1 r2"), ("w1", "r1 r2 w1"), ("r1 w1 w2", "w2 r1")):
            dealings = texts(*rows)
            for levels in all_levels(2):
                for weaving in all_weavings(dealings):
                    self.check(dealings, levels, weaving)

    def test_every_weaving_of_three(self):
        dealings = texts("r2 w1", "w2", "r1")
        for levels in (["whole"] * 3, ["still"] * 3, ["lax"] * 3, ["whole", "lax", "still"]):
            for weaving in all_weavings(dealings):
                self.check(dealings, levels, weaving)

    def test_many_by_chance(self):
        chance = random.Random(7)
        whys = set()
        for dealings in random_sets(11, 1500, (2, 3, 4), (1, 2, 3), 4):
            levels = [chance.choice(("lax", "still", "whole", "whole")) for dealing in dealings]
            whys.add(self.check(dealings, levels, random_weaving(chance, dealings)))
        self.assertEqual(whys, {None, "held", "late", "chain"})

    def test_chains_by_chance(self):
        # Each writes a box of its own, so that nothing but chains is barred.
        chance = random.Random(8)
        middles = set()
        for turn in range(1200):
            many = chance.randint(3, 5)
            dealings = []
            for number in range(many):
                boxes = chance.sample([box for box in range(many) if box != number], 2)
                rows = [("read", box) for box in boxes] + [("write", number)]
                chance.shuffle(rows)
                dealings.append(tuple(rows))
            levels = [chance.choice(("lax", "whole", "whole", "whole")) for dealing in dealings]
            weaving = random_weaving(chance, dealings)
            self.assertIn(self.check(dealings, levels, weaving), (None, "chain"))
            told = barred(dealings, levels, weaving)
            middles.add(None if told is None else told[2] == weaving[told[0]])
        self.assertEqual(middles, {None, False, True})


class Bounds(unittest.TestCase):
    def test_a_hundred_dealings(self):
        dealings = [
            tuple([("read", (number + step) % 100) for step in range(7)] + [("write", number)])
            for number in range(100)
        ]
        rising = [number for number in range(100) for turn in range(9)]
        for level in ("lax", "still", "whole"):
            run = Run(dealings, [level] * 100, rising)
            self.assertEqual(run.ended(), list(range(100)))
            self.assertEqual(len(run.seen()), 700)
            self.assertEqual(run.versions(99), [-1, 99])
        woven = list(range(100)) * 9
        self.assertIsNone(barred(dealings, ["still"] * 100, woven))
        # The ends stand at 800 to 899. 94 is the first that missed one that ended ahead of it, 0; and 88 to 93,
        # which ended behind 0, read the box that it writes.
        self.assertEqual(barred(dealings, ["whole"] * 100, woven), (894, "chain", 94))

    def test_a_hundred_writes_of_a_box(self):
        dealings = [steps("r1 w1")] * 100
        weaving = list(range(100)) + [number for number in range(100) for turn in range(2)]
        self.assertIsNone(barred(dealings, ["lax"] * 100, weaving))
        self.assertEqual(barred(dealings, ["still"] * 100, weaving), (102, "late", 0))
        self.assertEqual(Run(dealings, ["lax"] * 100, weaving).versions(1), [-1] + list(range(100)))

    def test_full_set(self):
        run = Run(full_set(), ["whole"] * 100, list(range(100)) * 9)
        self.assertEqual(run.ended(), list(range(100)))
        self.assertTrue(all(whose == -1 for number, box, whose in run.seen()))


class Refusals(unittest.TestCase):
    def test_no_dealings_comes_first(self):
        for at, wrong in enumerate(no_dealings()):
            for levels, weaving in ((["lax"], [0, 0]), (None, None), ([], [9]), (Hostile(), Hostile())):
                for asked in (barred, Run):
                    with self.assertRaises(NoDealings, msg=at):
                        asked(wrong, levels, weaving)

    def test_no_levels_comes_next(self):
        for dealings in small_sets()[:6]:
            for at, wrong in enumerate(no_levels(len(dealings))):
                for weaving in (None, [], all_weavings(dealings)[0], Hostile()):
                    for asked in (barred, Run):
                        with self.assertRaises(NoLevels, msg=at):
                            asked(dealings, wrong, weaving)

    def test_no_weaving_tells_its_place(self):
        dealings = texts("r1", "w1")
        for weaving, place in (
            (None, -1), ((0, 0, 1, 1), -1), ("0011", -1), ([], 0), ([0], 1), ([0, 0, 1], 3), ([0, 0, 0, 1], 2),
            ([0, 0, 1, 1, 1], 4), ([0, 1, True, 0], 2), ([0, 0, 1, 2], 3), ([[0], 0, 1, 1], 0), ([0, -1, 1, 1], 1),
            ([Hostile()], 0), ({}, -1),
        ):
            for asked in (barred, Run):
                with self.assertRaises(NoWeaving) as caught:
                    asked(dealings, ["lax", "whole"], weaving)
                self.assertEqual(caught.exception.place, place)

    def test_no_weaving_comes_ahead_of_barred(self):
        dealings = texts("w1", "w1")
        with self.assertRaises(NoWeaving) as caught:
            Run(dealings, ["lax", "lax"], [0, 1, 0])
        self.assertEqual(caught.exception.place, 3)
        with self.assertRaises(Barred) as caught:
            Run(dealings, ["lax", "lax"], [0, 1, 0, 1])
        told = caught.exception
        self.assertEqual((told.place, told.why, told.by), (1, "held", 0))

    def test_barred_and_its_fields(self):
        for rows, weaving, told in (
            (("w1", "w1"), [1, 0, 0, 1], (1, "held", 1)), (("r1 w1", "w1"), [0, 1, 1, 0, 0], (3, "late", 1)),
            (("r1 w2", "r2 w1"), [0, 1, 0, 1, 1, 0], (5, "chain", 0)),
        ):
            with self.assertRaises(Barred) as caught:
                Run(texts(*rows), ["whole", "whole"], weaving)
            self.assertEqual((caught.exception.place, caught.exception.why, caught.exception.by), told)
            self.assertIsInstance(caught.exception, AloneError)


class Equality(unittest.TestCase):
    def test_equal_just_where_the_three_are(self):
        made = []
        for dealings in (texts("r1", "w1"), texts("w1", "r1"), texts("r1", "w2"), texts("r1 r2", "w1")):
            for levels in all_levels(2):
                for weaving in all_weavings(dealings)[:4]:
                    made.append((dealings, levels, weaving))
        told = [Run(*three) for three in made]
        for one, run in zip(made, told):
            for other, twin in zip(made, told):
                self.assertIs(run == twin, one == other)
                self.assertIs(run != twin, one != other)
            self.assertTrue(run == Run(*copy.deepcopy(one)))

    def test_equal_to_nothing_else(self):
        dealings, levels, weaving = texts("r1", "w1"), ["lax", "lax"], [0, 0, 1, 1]
        run = Run(dealings, levels, weaving)
        wrong = things() + [(dealings, levels, weaving), [dealings, levels, weaving], dealings, weaving, Run]
        for at, thing in enumerate(wrong):
            self.assertIs(run == thing, False, at)
            self.assertIs(run != thing, True, at)
        plain = PlainRun(dealings, levels, weaving)
        self.assertFalse(run == plain)


class Handed(unittest.TestCase):
    def test_fields_are_own_copies(self):
        dealings, levels, weaving = texts("r1", "w1"), ["lax", "still"], [0, 1, 1, 0]
        before = copy.deepcopy((dealings, levels, weaving))
        run = Run(dealings, levels, weaving)
        for field, given in ((run.dealings, dealings), (run.levels, levels), (run.weaving, weaving)):
            self.assertIs(type(field), list)
            self.assertIsNot(field, given)
        self.assertEqual((dealings, levels, weaving), before)
        dealings.append(steps("w7"))
        levels[0] = "spoilt"
        weaving.clear()
        self.assertEqual((run.dealings, run.levels, run.weaving), before)
        self.assertTrue(run == Run(*before))
        self.assertEqual(run.ties(), [(0, 1, "past", 1)])

    def test_what_is_done_to_told_fields_changes_nothing(self):
        run = Run(texts("r1", "w1"), ["lax", "still"], [0, 1, 1, 0])
        run.dealings.append(steps("w7"))
        run.levels[0] = "spoilt"
        run.weaving.clear()
        self.assertTrue(run == Run(texts("r1", "w1"), ["lax", "still"], [0, 1, 1, 0]))
        self.assertEqual((run.levels, run.weaving), (["lax", "still"], [0, 1, 1, 0]))
        self.assertEqual(len(run.dealings), 2)
        self.assertEqual((run.seen(), run.ended(), run.order()), ([(0, 1, -1)], [1, 0], [0, 1]))

    def test_told_lists_are_new(self):
        run = Run(texts("r1 w2", "r2 w1"), ["still", "still"], [0, 1, 0, 1, 0, 1])
        other = Run(texts("r1", "w1"), ["lax", "lax"], [0, 0, 1, 1])
        for asked in (run.seen, run.ended, run.ties, run.ring, other.order, lambda: run.versions(1)):
            first = asked()
            before = list(first)
            self.assertIs(type(first), list)
            self.assertIsNot(asked(), first)
            first.append("spoilt")
            first.reverse()
            self.assertEqual(asked(), before)
        first = run.versions(77)
        first.append(3)
        self.assertEqual(run.versions(77), [-1])
        self.assertEqual(run.versions(78), [-1])

    def test_nothing_handed_in_is_changed(self):
        dealings = texts("r1 w2", "r2 w1", "w5")
        given = (dealings, ["still", "whole", "lax"], [0, 1, 0, 1, 0, 1, 2, 2])
        wrong = ([0, [1]], ["lax", {}], [{}, 0, [3]])
        before = copy.deepcopy((given, wrong))
        barred(*given)
        run = Run(*given)
        ring = run.ring()
        order = [2, 1, 0]
        ring_fault(run, ring)
        same(run, order)
        self.assertEqual(order, [2, 1, 0])
        for three in itertools.product(*zip(given, wrong)):
            for asked in (barred, Run):
                try:
                    asked(*three)
                except AloneError:
                    pass
        for asked in (run.versions, lambda thing: run.ties(kind=thing), lambda thing: run.ring(through=thing)):
            for thing in wrong:
                with self.assertRaises((NoBox, NoTie, NoNumber)):
                    asked(thing)
        self.assertEqual((given, wrong), before)

    def test_by_name(self):
        dealings, levels, weaving = texts("r1 w2", "r2 w1"), ["still", "whole"], [0, 1, 0, 1, 0, 1]
        self.assertIsNone(barred(weaving=weaving, dealings=dealings, levels=levels))
        run = Run(levels=levels, weaving=weaving, dealings=dealings)
        self.assertTrue(run == Run(dealings, levels, weaving))
        self.assertEqual(run.versions(box=1), [-1, 1])
        self.assertEqual(len(run.ties(kind="past")), 2)
        self.assertEqual(len(run.ring(through=1)), 2)
        self.assertIsNone(ring_fault(thing=run.ring(), run=run))
        self.assertIs(same(order=[0, 1], run=run), False)
        for asked in (run.ties, run.ring):
            with self.assertRaises(TypeError):
                asked(None)

    def test_the_interface(self):
        for name, names in (
            ("barred", ["dealings", "levels", "weaving"]), ("Run", ["dealings", "levels", "weaving"]),
            ("ring_fault", ["run", "thing"]), ("same", ["run", "order"]),
        ):
            asked = getattr(runs, name)
            self.assertEqual(list(inspect.signature(asked).parameters), names)
            self.assertEqual(asked.__module__, "asifalone.runs")
        for name in ("seen", "ended", "versions", "ties", "ring", "order", "__eq__"):
            self.assertIn(name, vars(Run))


if __name__ == "__main__":
    unittest.main()
