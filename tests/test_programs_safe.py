"""[28] and [29]: safe programs, their least levels, casts that aren't safe; [2], [3] and [7] of them."""

import copy
import inspect
import itertools
import random
import unittest

from anything import Hostile, all_levels, no_levels, no_programs, program, random_programs, right_cuts, things
from asifalone import sights as module
from asifalone.cuts import Cut, cut_fault, cut_weaving
from asifalone.errors import NoLevels, NoNumber, NoPrograms
from asifalone.least import least_levels, safe, tangle, unsafe
from asifalone.programs import cast
from asifalone.runs import Run, ring_fault
from asifalone.sights import least_of, least_of_all, safe_programs, unsafe_cast
from drawn import Pool, casts_on, enough_keys, plain_run

LEVELS = ("lax", "still", "whole")


def texts(*rows):
    """The programs of these texts."""
    return [program(row) for row in rows]


def stands_below(levels, least_ones):
    """Whether some level is laxer than its least one."""
    return any(LEVELS.index(level) < LEVELS.index(other) for level, other in zip(levels, least_ones))


def level_at(table, pool):
    """The least level of each program, of a table of the fewest unsafe casts for each list of levels."""
    many = len(pool.programs)
    told = []
    for number in range(many):
        for level in LEVELS:
            if table[tuple(level if other == number else "whole" for other in range(many))] is None:
                told.append(level)
                break
    return told


# Two accounts of a person, in two tables: their sum is read, one is put on, the other one is taken from by the sum.
BANK = texts("12 rk0 rk1", "1 rk0 wk0", "12 rk0 rk1 wk1", "2 rk0 wk0")


class Checked(unittest.TestCase):
    def check_cast(self, programs, levels, fewest):
        """What unsafe_cast and safe_programs tell, where so many casts are the fewest that aren't safe."""
        told = unsafe_cast(programs, levels)
        self.assertIs(safe_programs(programs, levels), fewest is None)
        if fewest is None:
            self.assertIsNone(told)
            return
        self.assertIs(type(told), tuple)
        casts, cut = told
        self.assertIs(type(casts), list)
        self.assertIs(type(cut), Cut)
        self.assertEqual(len(casts), fewest)
        self.assertEqual((cut.one, cut.row), (0, list(range(1, fewest))))
        dealings = cast(programs, casts)
        own = [levels[number] for number, keys in casts]
        self.assertIsNone(cut_fault(dealings, own, cut))
        run = Run(dealings, own, cut_weaving(dealings, cut))
        self.assertIsNone(ring_fault(run, run.ring(through=0)))


class Safe(Checked):
    def test_by_hand(self):
        # One that only adds up loses what it adds at "lax" alone.
        self.check_cast(texts("1 rk0 wk0"), ["lax"], 2)
        self.check_cast(texts("1 rk0 wk0"), ["still"], None)
        # Two that each read both and write one.
        rows = texts("11 rk0 rk1 wk0")
        self.check_cast(rows, ["lax"], 2)
        self.check_cast(rows, ["still"], 2)
        self.check_cast(rows, ["whole"], None)
        # One that reads two boxes, and one that writes both.
        rows = texts("rb1 rb2", "wb1 wb2")
        self.check_cast(rows, ["lax", "lax"], 2)
        self.check_cast(rows, ["still", "lax"], None)

    def test_more_runs_than_programs(self):
        # One program, two runs.
        self.check_cast(texts("11 rk0 wk1"), ["still"], 2)
        self.check_cast(texts("11 rk0 wk1"), ["whole"], None)
        # A reader of two keys, and a writer of one: two writers, on two keys, with another reader between them.
        rows = texts("11 rk0 rk1", "1 wk0")
        self.check_cast(rows, ["lax", "lax"], 4)
        self.check_cast(rows, ["lax", "whole"], 4)
        self.check_cast(rows, ["still", "lax"], None)
        # Of two tables: whoever reads of one and writes of the other one meets those that add up in each.
        rows = texts("12 rk0 wk1", "2 rk0 wk0", "1 rk0 wk0")
        pool = Pool(rows, enough_keys(rows))
        for levels in all_levels(3):
            self.check_cast(rows, levels, pool.fewest(levels))

    def test_a_long_row_by_boxes(self):
        # Each reads a box and writes the next one, the last one closes.
        rows = texts("rb1 wb2", "wb1 rb3", "wb3 rb4", "wb4 rb2")
        self.check_cast(rows, ["still"] * 4, 4)
        self.check_cast(rows, ["whole"] * 4, None)
        # A row of runs of the same programs on other and other keys.
        rows = texts("12 rk0 wk1", "13 wk0 rk1", "34 wk0 rk1", "42 wk0 rk1")
        self.check_cast(rows, ["still"] * 4, 4)
        self.check_cast(rows, ["whole"] * 4, None)

    def test_one_of_a_row_on_a_key_that_is_shared_twice(self):
        # In the middle one run meets the one ahead at one key, and the one behind at the same or another key.
        for rows in (
            texts("rb1 wb2", "1 wb1 wk0", "1 rk0 rb2"), texts("rb1 wb2", "1 wb1 wk0", "11 rk0 wk1", "1 rk0 rb2"),
            texts("rb1 wb2", "1 wb1 wk0", "12 rk0 wk1", "2 rk0 rb2"), texts("1 rk0 wb2", "11 wk0 wk1", "111 rk0 wk1 rk2", "1 rk0 rb2"),
            # Both runs have two keys of one table: the key that they share stands but once in each of them.
            texts("rb1 wb2", "11 wb1 rk0 wk1", "11 rb2 rk0 rk1"),
        ):
            pool = Pool(rows, enough_keys(rows))
            for levels in all_levels(len(rows)):
                self.check_cast(rows, levels, pool.fewest(levels))

    def test_against_all_lists_of_a_few_casts(self):
        found = set()
        for rows in list(random_programs(61, 60, (1, 2), 1, 3, 1)) + list(random_programs(62, 30, (2,), 2, 3, 2)):
            casts = casts_on(rows, range(2))
            if len(casts) > 6:
                continue
            for levels in all_levels(len(rows)):
                told = unsafe_cast(rows, levels)
                for many in (1, 2, 3):
                    for row in itertools.combinations_with_replacement(casts, many):
                        dealings = [plain_run(rows[number], keys) for number, keys in row]
                        if right_cuts(dealings, [levels[number] for number, keys in row]):
                            self.assertIsNotNone(told)
                            self.assertLessEqual(len(told[0]), many)
                            found.add(many)
        self.assertEqual(found, {2, 3})

    def test_against_all_rows_of_casts_on_enough_keys(self):
        found = set()
        chance = random.Random(63)
        sets = list(random_programs(64, 150, (1, 2, 3), 2, 4)) + list(random_programs(65, 60, (4,), 3, 4, 3))
        for rows in sets:
            worths = enough_keys(rows)
            if len(worths) > 4:
                continue
            pool = Pool(rows, worths)
            for levels in chance.sample(all_levels(len(rows)), 3):
                fewest = pool.fewest(levels)
                self.check_cast(rows, levels, fewest)
                found.add(fewest)
        self.assertLessEqual({None, 2, 3, 4}, found)

    def test_three_keys_of_a_table(self):
        found = set()
        chance = random.Random(66)
        for rows in (
            texts("111 rk0 rk1 wk2"), texts("111 rk0 wk1 rk2 wk2"), texts("111 rk0 wk0 rk1 wk1 rk2 wk2", "11 rk0 rk1"),
            texts("111 rk0 wk1 wk2", "1 rk0"), texts("111 rk0 rk1 rk2", "11 wk0 wk1"),
        ):
            pool = Pool(rows, enough_keys(rows))
            for levels in chance.sample(all_levels(len(rows)), 3):
                fewest = pool.fewest(levels)
                self.check_cast(rows, levels, fewest)
                found.add(fewest)
        self.assertLessEqual({None, 2}, found)

    def test_any_casts_of_safe_programs_are_safe(self):
        chance = random.Random(67)
        for rows in random_programs(68, 60, (1, 2, 3, 4), 2, 6):
            least_ones = least_of_all(rows)
            levels = [chance.choice(LEVELS[LEVELS.index(level):]) for level in least_ones]
            self.assertTrue(safe_programs(rows, levels))
            for worths in (1, 3, 4, 10):
                casts = casts_on(rows, range(max(worths, 3)))
                row = [chance.choice(casts) for turn in range(chance.choice((3, 10, 60)))]
                dealings = cast(rows, row)
                self.assertTrue(safe(dealings, [levels[number] for number, keys in row]))
                # So no run of a program needs more than its program does.
                self.assertFalse(stands_below([least_ones[number] for number, keys in row], least_levels(dealings)))


class Least(Checked):
    def test_by_hand(self):
        for rows, told in (
            (("1 rk0 wk0",), ["still"]), (("11 rk0 rk1 wk0",), ["whole"]), (("rb1",), ["lax"]), (("wb1",), ["lax"]),
            (("1 wk0",), ["lax"]), (("rb1 rb2", "wb1 wb2"), ["still", "lax"]), (("1 rk0", "1 wk0"), ["lax", "lax"]),
            (("11 rk0 rk1", "1 rk0 wk0"), ["still", "still"]), (("11 rk0 wk0 rk1 wk1",), ["still"]),
            (("rb1 wb2", "rb2 wb1"), ["whole", "whole"]), (("1 rk0 wb2", "1 wk0", "rb2"), ["still", "lax", "lax"]),
        ):
            rows = texts(*rows)
            pool = Pool(rows, enough_keys(rows))
            table = {tuple(levels): pool.fewest(levels) for levels in all_levels(len(rows))}
            self.assertEqual(level_at(table, pool), told, rows)
            self.assertEqual(least_of_all(rows), told, rows)

    def test_all_that_read_what_they_write_may_be_still(self):
        self.assertEqual(least_of_all(texts("111 rk0 wk0 rk1 wk1 rk2 wk2", "11 rk0 wk0 rk1 wk1", "1 rk0 wk0")), ["still"] * 3)

    def test_against_all_tables_of_levels(self):
        found = set()
        sets = list(random_programs(71, 60, (1, 2, 3), 2, 4)) + list(random_programs(72, 12, (4,), 2, 3)) + [BANK]
        for rows in sets:
            worths = enough_keys(rows)
            if len(worths) > 4:
                continue
            told = least_of_all(rows)
            self.assertEqual([least_of(rows, number) for number in range(len(rows))], told)
            pool = Pool(rows, worths)
            table = {tuple(levels): pool.fewest(levels) for levels in all_levels(len(rows))}
            self.assertEqual(level_at(table, pool), told)
            for levels, fewest in table.items():
                self.assertIs(fewest is None, not stands_below(levels, told))
                self.assertIs(safe_programs(rows, list(levels)), fewest is None)
            found.update(told)
        self.assertEqual(found, set(LEVELS))

    def test_in_another_order(self):
        chance = random.Random(73)
        for rows in random_programs(74, 120, (2, 3, 4), 2, 6):
            told = least_of_all(rows)
            order = list(range(len(rows)))
            chance.shuffle(order)
            self.assertEqual(least_of_all([rows[number] for number in order]), [told[number] for number in order])
            levels = [chance.choice(LEVELS) for row in rows]
            other = unsafe_cast([rows[number] for number in order], [levels[number] for number in order])
            first = unsafe_cast(rows, levels)
            self.assertEqual(first and len(first[0]), other and len(other[0]))

    def test_with_tables_boxes_and_keys_renamed(self):
        chance = random.Random(75)
        for rows in random_programs(76, 120, (1, 2, 3, 4), 3, 6, 3):
            tables = dict(zip((1, 2, 3), chance.sample(range(1, 10), 3)))
            boxes = dict(zip(range(3), chance.sample([0, 1, 999999, 5, 77], 3)))
            renamed = []
            for row, steps in rows:
                order = list(range(len(row)))
                chance.shuffle(order)
                names = {"box": boxes, "key": {old: new for new, old in enumerate(order)}}
                given = tuple((word, (kind, names[kind][at])) for word, (kind, at) in steps)
                renamed.append((tuple(tables[row[old]] for old in order), given))
            self.assertEqual(least_of_all(renamed), least_of_all(rows))
            levels = [chance.choice(LEVELS) for row in rows]
            one, other = unsafe_cast(rows, levels), unsafe_cast(renamed, levels)
            self.assertEqual(one and len(one[0]), other and len(other[0]))

    def test_one_more_makes_none_laxer(self):
        for rows in random_programs(77, 120, (4,), 2, 4):
            told = least_of_all(rows[:1])
            for many in range(2, 5):
                more = least_of_all(rows[:many])
                self.assertFalse(stands_below(more, told))
                told = more
            # The same program once more is but another name of it.
            self.assertEqual(least_of_all(rows[:3] + rows[:1]), least_of_all(rows[:3]) + least_of_all(rows[:3])[:1])

    def test_one_lower_is_a_tangle(self):
        for rows in random_programs(78, 80, (1, 2, 3, 4), 2, 6):
            told = least_of_all(rows)
            for number, level in enumerate(told):
                if level != "lax":
                    levels = list(told)
                    levels[number] = LEVELS[LEVELS.index(level) - 1]
                    casts, cut = unsafe_cast(rows, levels)
                    dealings, own = cast(rows, casts), [levels[other] for other, keys in casts]
                    self.assertIsNotNone(tangle(dealings, own).ring())
                    # As few as can be: none of the casts can be left out, and no other cut has a shorter row.
                    self.assertEqual(len(unsafe(dealings, own).row), len(casts) - 1)
                    self.assertIn(number, [other for other, keys in casts])

    def test_the_most(self):
        row = "rk0 rk1 rk2 wk0 wk1 wk2"
        for rows in (["111 " + row] * 4, ["123 " + row] * 4, ["112 " + row, "121 " + row, "211 " + row, "222 " + row]):
            self.assertEqual(least_of_all(texts(*rows)), ["still"] * 4)


class Refusals(unittest.TestCase):
    def test_no_programs_comes_first(self):
        for at, wrong in enumerate(no_programs()):
            for other in (["lax"], 0, None, Hostile()):
                for asked in (safe_programs, unsafe_cast, least_of):
                    with self.assertRaises(NoPrograms, msg=at):
                        asked(wrong, other)
            with self.assertRaises(NoPrograms, msg=at):
                least_of_all(wrong)

    def test_no_levels(self):
        for rows in (texts("1 rk0"), texts("1 rk0", "rb5 wb6"), BANK):
            for at, wrong in enumerate(no_levels(len(rows))):
                for asked in (safe_programs, unsafe_cast):
                    with self.assertRaises(NoLevels, msg=at):
                        asked(rows, wrong)

    def test_no_number(self):
        rows = texts("1 rk0", "rb5 wb6")
        for at, wrong in enumerate(things() + [-1, 2, 4, True, False, 1.0, "0", None, [0], (0,), {0}, {}, Hostile()]):
            with self.assertRaises(NoNumber, msg=at):
                least_of(rows, wrong)


class Handed(unittest.TestCase):
    def test_by_name(self):
        rows = texts("1 rk0 wk0")
        self.assertIs(safe_programs(levels=["still"], programs=rows), True)
        self.assertEqual(least_of(number=0, programs=rows), "still")
        self.assertEqual(least_of_all(programs=rows), ["still"])
        self.assertEqual(len(unsafe_cast(levels=["lax"], programs=rows)[0]), 2)

    def test_the_interface(self):
        for name, names in (
            ("safe_programs", ["programs", "levels"]), ("least_of", ["programs", "number"]), ("least_of_all", ["programs"]),
            ("unsafe_cast", ["programs", "levels"]),
        ):
            asked = getattr(module, name)
            self.assertEqual(list(inspect.signature(asked).parameters), names)
            self.assertEqual(asked.__module__, "asifalone.sights")

    def test_told_things_are_new_and_nothing_is_changed(self):
        rows, levels = texts("11 rk0 rk1 wk0", "rb5 wb6"), ["lax", "still"]
        before = copy.deepcopy((rows, levels))
        casts, cut = unsafe_cast(rows, levels)
        kept = (list(casts), str(cut))
        casts.append("spoilt")
        cut.row.append(7)
        told = least_of_all(rows)
        told.append("spoilt")
        again = unsafe_cast(rows, levels)
        self.assertEqual((again[0], str(again[1])), kept)
        self.assertEqual(least_of_all(rows), told[:2])
        self.assertEqual((rows, levels), before)


if __name__ == "__main__":
    unittest.main()
