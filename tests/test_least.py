"""[20] and [21]: unsafe, safe, tangle, least levels; [2], [3], [7] and [23] of them."""

import copy
import inspect
import itertools
import random
import unittest

from anything import Hostile, all_levels, no_dealings, no_levels, random_sets, right_cuts, small_sets, steps, things
from asifalone import least
from asifalone.cuts import Cut, cut_fault, cut_weaving
from asifalone.errors import NoDealings, NoLevels, NoNumber
from asifalone.least import least_level, least_levels, safe, tangle, unsafe
from asifalone.runs import Run, ring_fault

LEVELS = ("lax", "still", "whole")


def texts(*rows):
    """The dealings of these texts."""
    return [steps(row) for row in rows]


def wheel(many):
    """Each writes the box that the next one reads, round about."""
    return [(("read", number), ("write", (number + 1) % many)) for number in range(many)]


def stands_below(levels, least_ones):
    """Whether some level is laxer than its least one."""
    return any(LEVELS.index(level) < LEVELS.index(other) for level, other in zip(levels, least_ones))


def plain_least(dealings, number):
    """The laxest level of a number at which all cuts have a fault, all others being whole."""
    for level in LEVELS:
        levels = ["whole"] * len(dealings)
        levels[number] = level
        if not right_cuts(dealings, levels):
            return level
    return None


class Unsafe(unittest.TestCase):
    def check(self, dealings, levels):
        """Against all cuts."""
        cuts = right_cuts(dealings, levels)
        asked = [(unsafe(dealings, levels), cuts), (unsafe(dealings, levels, one=None), cuts)]
        for one in range(len(dealings)):
            asked.append((unsafe(dealings, levels, one=one), [cut for cut in cuts if cut[0] == one]))
        for told, right in asked:
            if not right:
                self.assertIsNone(told)
                continue
            self.assertIs(type(told), Cut)
            self.assertIn((told.one, told.at, told.row), right)
            self.assertEqual(len(told.row), min(len(cut[2]) for cut in right))
            self.assertIsNone(cut_fault(dealings, levels, told))
        self.assertIs(safe(dealings, levels), not cuts)
        run = tangle(dealings, levels)
        if not cuts:
            self.assertIsNone(run)
        else:
            self.assertIs(type(run), Run)
            self.assertEqual((run.dealings, run.levels), (dealings, levels))
            self.assertIsNone(ring_fault(run, run.ring()))
        return [len(told.row) for told, right in asked if told is not None]

    def test_by_hand(self):
        dealings = texts("r1 w2", "r2 w1")
        self.assertIsNone(unsafe(dealings, ["whole", "whole"]))
        self.assertEqual(str(unsafe(dealings, ["whole", "still"], one=0)), "0.0:1")
        self.assertEqual(str(unsafe(dealings, ["whole", "still"], one=1)), "1.0:0")
        dealings = texts("r1 w1", "r1 w1")
        self.assertIsNone(unsafe(dealings, ["still", "still"]))
        self.assertEqual(str(unsafe(dealings, ["lax", "still"])), "0.0:1")
        self.assertIsNone(unsafe(dealings, ["lax", "still"], one=1))

    def test_of_one_dealing(self):
        for level in LEVELS:
            self.assertEqual(self.check(texts("r1 w1 r2 w2"), [level]), [])

    def test_against_all_cuts_at_all_levels(self):
        for rows in (
            ("r1 w2", "r2 w1"), ("r1 w1", "r1 w1"), ("r1 r2", "w1 w2"), ("r1 w2", "w1 r3", "w3 r2"),
            ("r1 w2", "w1", "r2 r1"), ("w4 r1", "w1 r4", "w1 w4"), ("r1 r2 w3", "w1 r5", "w2 r3", "w5 r3"),
        ):
            dealings = texts(*rows)
            for levels in all_levels(len(dealings)):
                self.check(dealings, levels)

    def test_against_all_cuts_by_chance(self):
        chance = random.Random(12)
        sizes = set()
        for dealings in random_sets(13, 700, (2, 3, 4, 5), (1, 2, 3, 4, 5), 3):
            levels = [chance.choice(("lax", "still", "whole", "whole")) for dealing in dealings]
            sizes.update(self.check(dealings, levels))
        self.assertLessEqual({1, 2, 3}, sizes)

    def test_rows_past_whole_ones(self):
        # The short row 1, 2 is barred, the long way round by 3, which isn't whole, is not.
        dealings = texts("r1 w2", "w1 r3", "w3 r2", "w1 w7", "r7 w8", "r8 w3")
        self.assertEqual(unsafe(dealings, ["whole"] * 3 + ["lax"] + ["whole"] * 2, one=0).row, [3, 4, 5, 2])
        self.assertEqual(unsafe(dealings, ["whole"] * 2 + ["still"] + ["whole"] * 3, one=0).row, [1, 2])
        self.assertIsNone(unsafe(dealings, ["whole"] * 6, one=0))
        self.assertIsNone(unsafe(dealings, ["whole"] * 4 + ["lax", "lax"], one=0))

    def test_a_row_that_would_go_through_a_whole_writer(self):
        # 1 isn't whole and leads by 2 alone, which is whole and writes what one reads: barred with 3. 4 leads round.
        dealings = texts("r1 r9 w2", "w1 w5", "r5 w9 w3", "r3 r2", "r5 w6", "r6 w3")
        levels = ["whole", "lax"] + ["whole"] * 4
        self.assertEqual(unsafe(dealings, levels, one=0).row, [1, 4, 5, 3])
        self.check(dealings, levels)

    def test_long_rows(self):
        for many in (3, 10, 60, 100):
            dealings = wheel(many)
            for level in ("lax", "still"):
                told = unsafe(dealings, [level] * many)
                self.assertEqual(len(told.row), many - 1)
                self.assertIsNone(cut_fault(dealings, [level] * many, told))
            self.assertIsNone(unsafe(dealings, ["whole"] * many))
            levels = ["whole"] * many
            levels[0] = "still"
            told = unsafe(dealings, levels)
            self.assertEqual(len(told.row), many - 1)
            self.assertIsNone(cut_fault(dealings, levels, told))
            # 0 stands neither first nor last in the rows of those far from it.
            if many > 3:
                self.assertIsNone(unsafe(dealings, levels, one=many // 2))

    def test_the_shortest_over_all_numbers(self):
        dealings = wheel(5) + texts("r50 w51", "r51 w52", "r52 w50") + texts("r60 w61", "r61 w60")
        levels = ["still"] * 10
        self.assertEqual(len(unsafe(dealings, levels).row), 1)
        self.assertIn(unsafe(dealings, levels).one, (8, 9))
        for one, many in enumerate([4] * 5 + [2] * 3 + [1] * 2):
            self.assertEqual(len(unsafe(dealings, levels, one=one).row), many)

    def test_no_number(self):
        dealings = texts("r1 w2", "r2 w1")
        wrong = [thing for thing in things() if thing is not None]
        for at, one in enumerate(wrong + [-1, 2, 100, True, False, 1.0, "0", [0], (0,), {0}, {}, Hostile()]):
            with self.assertRaises(NoNumber, msg=at):
                unsafe(dealings, ["lax", "lax"], one=one)


class Tangles(unittest.TestCase):
    def test_by_hand(self):
        dealings = texts("r1 w2", "r2 w1")
        self.assertIsNone(tangle(dealings, ["whole", "whole"]))
        run = tangle(dealings, ["still", "whole"])
        self.assertIn(run.weaving, ([0, 1, 1, 1, 0, 0], [1, 0, 0, 0, 1, 1]))
        self.assertEqual(run.ring(through=0)[0][2], "past")

    def test_of_a_cut(self):
        dealings = wheel(40)
        levels = ["lax", "still"] * 20
        run = tangle(dealings, levels)
        self.assertTrue(run == Run(dealings, levels, cut_weaving(dealings, unsafe(dealings, levels))))
        self.assertEqual(len(run.ring()), 40)


class Least(unittest.TestCase):
    def test_by_hand(self):
        for rows, told in (
            (("r1 w2", "r2 w1"), ["whole", "whole"]), (("r1 w1", "r1 w1"), ["still", "still"]),
            (("r1", "w1"), ["lax", "lax"]), (("r1 r2", "w1 w2"), ["still", "lax"]), (("r1 w1 r2",), ["lax"]),
            (("r1 w2", "r2 w3", "r3 w1"), ["whole"] * 3), (("r1 w2", "w1", "r2"), ["lax", "lax", "lax"]),
            (("r1 w2", "w1 r5", "r2 w5"), ["whole"] * 3), (("r1 w2", "w1 w5", "r2 r5"), ["whole"] * 3),
            # 2 stands in the middle of rows only, so it may be lax.
            (("r1 w2", "w1 w5", "w5 w6", "w6 r2"), ["whole", "whole", "lax", "whole"]),
        ):
            dealings = texts(*rows)
            self.assertEqual([plain_least(dealings, number) for number in range(len(dealings))], least_levels(dealings))
            self.assertEqual(least_levels(dealings), told, rows)

    def test_against_all_tables_of_levels(self):
        found = set()
        rows = list(random_sets(14, 60, (1, 2, 3), (1, 2, 3), 3)) + list(random_sets(15, 25, (4,), (1, 2, 3, 4), 3))
        for dealings in rows + small_sets()[:8]:
            told = least_levels(dealings)
            self.assertEqual([least_level(dealings, number) for number in range(len(dealings))], told)
            self.assertEqual([plain_least(dealings, number) for number in range(len(dealings))], told)
            for levels in all_levels(len(dealings)):
                right = not stands_below(levels, told)
                self.assertIs(safe(dealings, levels), right)
                self.assertIs(not right_cuts(dealings, levels), right)
            found.update(told)
        self.assertEqual(found, set(LEVELS))

    def test_in_another_order(self):
        chance = random.Random(16)
        for dealings in random_sets(17, 120, (3, 5, 12), (1, 2, 3, 4, 5, 6, 7), 4):
            told = least_levels(dealings)
            order = list(range(len(dealings)))
            chance.shuffle(order)
            self.assertEqual(least_levels([dealings[number] for number in order]), [told[number] for number in order])

    def test_one_more_makes_none_laxer(self):
        for dealings in random_sets(18, 60, (4, 6, 9), (1, 2, 3, 4, 5, 6), 3):
            told = least_levels(dealings[:1])
            for many in range(2, len(dealings) + 1):
                more = least_levels(dealings[:many])
                self.assertFalse(stands_below(more, told))
                told = more

    def test_a_hundred(self):
        self.assertEqual(least_levels(wheel(100)), ["whole"] * 100)
        dealings = [(("read", number), ("write", number + 1)) for number in range(100)]
        self.assertEqual(least_levels(dealings), ["lax"] * 100)
        self.assertEqual(least_levels([steps("r1 w1 r2 w2 r3 w3 r4 w4")] * 100), ["still"] * 100)
        self.assertEqual(least_levels([steps("r1 r2 r3 r4 r5 r6 r7 r8")] * 100), ["lax"] * 100)
        dealings = texts("r1 w2", "r2 w1") + [steps("r1 r2 r3 r4 r5 r6 r7 r8")] * 97 + texts("r9 w9")
        self.assertEqual(least_levels(dealings), ["whole"] * 2 + ["still"] * 97 + ["lax"])

    def test_many_by_chance(self):
        chance = random.Random(19)
        found = set()
        for boxes, most in ((30, 8), (100, 8), (300, 5), (500, 4)):
            for dealings in random_sets(boxes, 1, (100,), range(boxes), most):
                told = least_levels(dealings)
                found.update(told)
                self.assertTrue(safe(dealings, told))
                for number in range(0, 100, 7):
                    self.assertEqual(least_level(dealings, number), told[number])
                    if told[number] != "lax":
                        levels = list(told)
                        levels[number] = LEVELS[LEVELS.index(told[number]) - 1]
                        cut = unsafe(dealings, levels)
                        self.assertIsNone(cut_fault(dealings, levels, cut))
                        self.assertIsNotNone(tangle(dealings, levels).ring())
                for turn in range(10):
                    levels = [chance.choice(LEVELS[LEVELS.index(level):]) for level in told]
                    self.assertTrue(safe(dealings, levels))
        self.assertEqual(found, set(LEVELS))

    def test_no_number(self):
        dealings = texts("r1 w2", "r2 w1")
        for at, number in enumerate(things() + [-1, 2, 100, True, False, 1.0, "0", [0], (0,), {0}, {}, Hostile()]):
            with self.assertRaises(NoNumber, msg=at):
                least_level(dealings, number)


class Refusals(unittest.TestCase):
    def test_no_dealings_comes_first(self):
        for at, wrong in enumerate(no_dealings()):
            for levels in (["lax"], None, Hostile()):
                for asked in (unsafe, safe, tangle):
                    with self.assertRaises(NoDealings, msg=at):
                        asked(wrong, levels)
                with self.assertRaises(NoDealings, msg=at):
                    unsafe(wrong, levels, one=Hostile())
            for number in (0, -1, None, Hostile()):
                with self.assertRaises(NoDealings, msg=at):
                    least_level(wrong, number)
            with self.assertRaises(NoDealings, msg=at):
                least_levels(wrong)

    def test_no_levels_comes_next(self):
        for dealings in small_sets()[:6]:
            for at, wrong in enumerate(no_levels(len(dealings))):
                for asked in (unsafe, safe, tangle):
                    with self.assertRaises(NoLevels, msg=at):
                        asked(dealings, wrong)
                for one in (0, -1, "thing", Hostile()):
                    with self.assertRaises(NoLevels, msg=at):
                        unsafe(dealings, wrong, one=one)


class Handed(unittest.TestCase):
    def test_by_name(self):
        dealings, levels = texts("r1 w2", "r2 w1"), ["still", "whole"]
        self.assertTrue(unsafe(levels=levels, dealings=dealings) == unsafe(dealings, levels))
        self.assertEqual(unsafe(one=1, levels=levels, dealings=dealings).one, 1)
        self.assertIs(safe(levels=levels, dealings=dealings), False)
        self.assertTrue(tangle(levels=levels, dealings=dealings) == tangle(dealings, levels))
        self.assertEqual(least_level(number=1, dealings=dealings), "whole")
        self.assertEqual(least_levels(dealings=dealings), ["whole", "whole"])
        with self.assertRaises(TypeError):
            unsafe(dealings, levels, 1)

    def test_the_interface(self):
        for name, names in (
            ("unsafe", ["dealings", "levels", "one"]), ("safe", ["dealings", "levels"]),
            ("tangle", ["dealings", "levels"]), ("least_level", ["dealings", "number"]), ("least_levels", ["dealings"]),
        ):
            asked = getattr(least, name)
            self.assertEqual(list(inspect.signature(asked).parameters), names)
            self.assertEqual(asked.__module__, "asifalone.least")

    def test_what_is_told_is_new(self):
        dealings, levels = texts("r1 w2", "r2 w1"), ["still", "whole"]
        first = least_levels(dealings)
        self.assertIs(type(first), list)
        first.append("spoilt")
        self.assertEqual(least_levels(dealings), ["whole", "whole"])
        cut = unsafe(dealings, levels, one=0)
        cut.row.append(9)
        cut.at = 7
        self.assertTrue(unsafe(dealings, levels, one=0) == Cut(0, 0, [1]))

    def test_nothing_handed_in_is_changed(self):
        dealings, levels = texts("r1 w2", "r2 w1", "w1"), ["lax", "still", "whole"]
        before = copy.deepcopy((dealings, levels))
        for turn in range(2):
            unsafe(dealings, levels)
            unsafe(dealings, levels, one=2)
            safe(dealings, levels)
            tangle(dealings, levels)
            least_level(dealings, 1)
            least_levels(dealings)
            with self.assertRaises(NoNumber):
                unsafe(dealings, levels, one=[0])
        self.assertEqual((dealings, levels), before)

    def test_asked_again(self):
        for dealings in random_sets(20, 40, (3, 5), (1, 2, 3, 4), 3):
            for levels in itertools.islice(all_levels(len(dealings)), 0, None, 5):
                first = unsafe(dealings, levels)
                again = unsafe(list(dealings), list(levels))
                self.assertTrue(first == again)
                self.assertTrue(tangle(dealings, levels) == tangle(dealings, levels))


if __name__ == "__main__":
    unittest.main()
