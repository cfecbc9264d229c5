"""[30] and [31]: sights, shields of programs and their faults; [2], [3] and [7] of them."""

import copy
import inspect
import itertools
import random
import unittest

from anything import Hostile, all_levels, clash, does_close, is_free, no_levels, no_programs, program, random_programs
from anything import row_barred, things, writes
from asifalone import sights as module
from asifalone.errors import NoLevels, NoNumber, NoPrograms
from asifalone.sights import least_of_all, program_shield, program_shield_fault, safe_programs, sights, unsafe_cast
from drawn import Pool, casts_on, enough_keys, plain_run, spots_seen

LEVELS = ("lax", "still", "whole")


def texts(*rows):
    """The programs of these texts."""
    return [program(row) for row in rows]


class Seen:
    """A run of a program, and drawn runs of each sight of it: what [30] says of sights, by what is so of the runs."""

    def __init__(self, programs, number):
        worths = enough_keys(programs)
        tables = programs[number][0]
        first = (number, tuple(range(len(tables))))
        self.programs = programs
        self.number = number
        self.one = plain_run(programs[number], first[1])
        self.runs = {}
        for other in casts_on(programs, range(max(6, len(worths)))):
            sight = spots_seen(programs, first, other)
            self.runs.setdefault(sight, set()).add(plain_run(programs[other[0]], other[1]))
        self.sights = sorted(self.runs)
        self.aside = [sight for sight in self.sights if not self.each(sight, lambda run: clash(self.one, run))]
        self.meets = {}

    def each(self, sight, asked):
        """What is so of each run of a sight."""
        told = {asked(run) for run in self.runs[sight]}
        assert len(told) == 1
        return told.pop()

    def clash(self, one, other):
        """Whether some runs of two sights clash."""
        if (one, other) not in self.meets:
            pairs = itertools.product(self.runs[one], self.runs[other])
            self.meets[one, other] = self.meets[other, one] = any(clash(*pair) for pair in pairs)
        return self.meets[one, other]

    def components(self):
        """The parts of those aside that are linked by clashes."""
        told, left = [], list(self.aside)
        while left:
            part = [left.pop(0)]
            for sight in part:
                part.extend(other for other in left if self.clash(sight, other))
                left = [other for other in left if other not in part]
            told.append(sorted(part))
        return sorted(told)

    def leading(self, levels, at, first, last, parts):
        """Whether two sights lead to one another for a read."""
        if not first == last and not self.clash(first, last):
            for part in parts:
                if any(self.clash(first, other) for other in part) and any(self.clash(last, other) for other in part):
                    break
            else:
                return False
        row = [first] if first == last else [first, last]
        runs = [self.one] + [min(self.runs[sight]) for sight in row]
        own = [levels[self.number]] + [levels[number] for number, spots in row]
        return not row_barred(runs, own, 0, list(range(1, len(runs))))

    def fault(self, levels, parts):
        """What [31] says of a parting of all that are aside, each in one part."""
        for mine, theirs in itertools.combinations(parts, 2):
            if any(self.clash(one, other) for one in mine for other in theirs):
                return "lacks"
        for at, (word, box) in enumerate(self.one):
            if word != "read":
                continue
            own = [levels[self.number], None]
            free = [s for s in self.sights if self.each(s, lambda run: is_free([self.one, run], own, 0, at, 1))]
            firsts = [s for s in free if self.each(s, lambda run: box in writes(run))]
            lasts = [s for s in free if self.each(s, lambda run: does_close([self.one, run], own, 0, at, 1))]
            for first, last in itertools.product(firsts, lasts):
                if self.leading(levels, at, first, last, parts):
                    return at
        return None


def partings(rows):
    """All lists of parts of these rows."""
    if not rows:
        return [[]]
    told = []
    for rest in partings(rows[1:]):
        told.append([[rows[0]]] + rest)
        for place, part in enumerate(rest):
            told.append([[rows[0]] + part] + rest[:place] + rest[place + 1:])
    return told


class Sights(unittest.TestCase):
    def test_by_hand(self):
        self.assertEqual(sights(texts("rb1"), 0), [(0, ())])
        self.assertEqual(sights(texts("1 rk0"), 0), [(0, (-1,)), (0, (0,))])
        self.assertEqual(sights(texts("1 rk0", "2 rk0", "rb1"), 0), [(0, (-1,)), (0, (0,)), (1, (-1,)), (2, ())])
        self.assertEqual(sights(texts("1 rk0", "2 rk0", "rb1"), 1), [(0, (-1,)), (1, (-1,)), (1, (0,)), (2, ())])
        self.assertEqual(sights(texts("1 rk0", "2 rk0", "rb1"), 2), [(0, (-1,)), (1, (-1,)), (2, ())])
        self.assertEqual(
            sights(texts("11 rk0 rk1"), 0),
            [(0, (-1, -1)), (0, (-1, 0)), (0, (-1, 1)), (0, (0, -1)), (0, (0, 1)), (0, (1, -1)), (0, (1, 0))],
        )
        self.assertEqual(
            sights(texts("121 rk0 rk1 rk2", "12 rk0 rk1"), 1)[:6],
            [(0, (-1, -1, -1)), (0, (-1, -1, 0)), (0, (-1, 1, -1)), (0, (-1, 1, 0)), (0, (0, -1, -1)), (0, (0, 1, -1))],
        )

    def test_how_many(self):
        row = "rk0 rk1 rk2"
        self.assertEqual(len(sights(texts("111 " + row), 0)), 34)
        self.assertEqual(len(sights(texts(*["111 " + row] * 4), 3)), 136)
        self.assertEqual(len(sights(texts("123 " + row), 0)), 8)
        self.assertEqual(len(sights(texts("112 " + row, "rb1"), 0)), 15)
        self.assertEqual(len(sights(texts("112 " + row, "rb1"), 1)), 2)

    def test_against_drawn_runs(self):
        chance = random.Random(81)
        for rows in random_programs(82, 60, (1, 2, 3), 2, 6):
            for number in range(len(rows)):
                told = sights(rows, number)
                self.assertEqual(told, sorted(set(told)))
                # On all keys of six worths, and for other keys of the first run, too.
                first = (number, chance.choice(casts_on(rows[number:number + 1], range(6)))[1])
                met = {spots_seen(rows, first, other) for other in casts_on(rows, range(6))}
                self.assertEqual(told, sorted(met))


class Shields(unittest.TestCase):
    def test_by_hand(self):
        self.assertEqual(program_shield(texts("rb1"), 0), [[(0, ())]])
        self.assertEqual(program_shield(texts("wb1"), 0), [])
        # Two readers of a key are aside of one another, alone or not.
        self.assertEqual(program_shield(texts("1 rk0"), 0), [[(0, (-1,))], [(0, (0,))]])
        self.assertEqual(program_shield(texts("1 rk0", "1 wk0"), 0), [[(0, (-1,)), (1, (-1,))], [(0, (0,))]])
        self.assertEqual(program_shield(texts("1 rk0", "1 wk0"), 1), [[(0, (-1,)), (1, (-1,))]])
        self.assertEqual(
            program_shield(texts("1 rk0", "2 wk0", "3 rk0", "2 rk0 rb7"), 0),
            [[(0, (-1,))], [(0, (0,))], [(1, (-1,)), (3, (-1,))], [(2, (-1,))]],
        )

    def test_links_by_other_keys_and_by_boxes(self):
        # Those that write other keys of a table clash: two runs may do so on the same one.
        self.assertEqual(program_shield(texts("1 wk0"), 0), [[(0, (-1,))]])
        self.assertEqual(
            program_shield(texts("rb1", "12 rk0 wk1", "3 wk0", "2 rk0 wb5"), 0),
            [[(0, ())], [(1, (-1, -1)), (3, (-1,))], [(2, (-1,))]],
        )
        # By a box, and by a key of the first run.
        self.assertEqual(program_shield(texts("rb1", "rb5", "wb5"), 0), [[(0, ())], [(1, ()), (2, ())]])

    def test_against_drawn_runs(self):
        sizes = set()
        for rows in random_programs(83, 60, (1, 2, 3), 2, 4):
            for number in range(len(rows)):
                told = program_shield(rows, number)
                self.assertEqual(told, Seen(rows, number).components())
                self.assertEqual(told, sorted(sorted(part) for part in told))
                sizes.add(len(told))
        self.assertLessEqual({0, 1, 2, 3}, sizes)


class Faults(unittest.TestCase):
    def test_form(self):
        # (0, (-1,)), (0, (0,)), (1, (-1,)) are aside of the first one, (1, (0,)) is not.
        rows = texts("1 rk0", "1 wk0")
        right = [[(0, (-1,)), (1, (-1,))], [(0, (0,))]]
        self.assertIsNone(program_shield_fault(rows, ["lax", "lax"], 0, right))
        part, other = right
        wrong = things() + [
            [part, other, []], [[]], tuple(right), [tuple(part), other], [part, (0, (0,))], {0: part}, [part, None], [part, other[0]],
            [part, other + [(1, (0,))]], [part, other + other], [part, other, other], [part, other + part[:1]], [[(1, (0,))]],
            [part, other + [(2, (-1,))]], [part, other + [(-1, (-1,))]], [part, [[0, (0,)]]], [part, [(0, [0])]],
            [part, [(False, (0,))]], [part, [(0, (False,))]], [[(0, (-1,)), (True, (-1,))], other], [part, [(0, (1,))]],
            [part, [(0, (-2,))]], [part, [(0, (0, 0))]], [part, [(0, ())]], [part, [(0,)]], [part, [(0, (0,), 0)]],
            [part, [(0, 0)]], [part, [0]], [part, ["sight"]], [part, [None]], [part, [Hostile()]], [part, [(Hostile(), (0,))]],
            [part, [(0, Hostile())]], [part, [(0, (Hostile(),))]], [part, Hostile()], [part, [(0.0, (0,))]],
            [part, [(0, (0.0,))]], [part, [(10 ** 60, (10 ** 60,))]], [part, [{}]], [part, [((0, (0,)),)]], part, "shield",
        ]
        for at, thing in enumerate(wrong):
            self.assertEqual(program_shield_fault(rows, ["lax", "lax"], 0, thing), "form", at)

    def test_lacks(self):
        rows = texts("1 rk0", "1 wk0")
        one, two, three = (0, (-1,)), (0, (0,)), (1, (-1,))
        for thing in ([], [[one, three]], [[two]], [[one], [two]], [[one], [two], [three]], [[one, two], [three]], [[one, two]]):
            self.assertEqual(program_shield_fault(rows, ["lax", "lax"], 0, thing), "lacks", thing)
        for thing in ([[one, three], [two]], [[two], [three, one]], [[one, two, three]], [[three, two, one]]):
            self.assertIsNone(program_shield_fault(rows, ["lax", "lax"], 0, thing), thing)

    def test_form_ahead_of_lacks_ahead_of_places(self):
        rows = texts("1 rk0 wk0")
        self.assertEqual(program_shield_fault(rows, ["lax"], 0, [[(0, (0,))]]), "form")
        self.assertEqual(program_shield_fault(rows, ["lax"], 0, [[]]), "form")
        self.assertEqual(program_shield_fault(rows, ["lax"], 0, []), "lacks")
        self.assertEqual(program_shield_fault(rows, ["lax"], 0, [[(0, (-1,))]]), 0)
        self.assertIsNone(program_shield_fault(rows, ["still"], 0, [[(0, (-1,))]]))

    def test_the_place_of_the_first_read(self):
        rows = texts("12 wb9 rb7 rk0 rk1 wb2", "1 wk0", "12 rk0 rb2 rk1", "2 wk0 rb2")
        told = program_shield(rows, 0)
        self.assertEqual(program_shield_fault(rows, ["still"] * 4, 0, told), 2)
        self.assertIsNone(program_shield_fault(rows, ["whole"] * 4, 0, told))
        self.assertEqual(program_shield_fault(rows, ["whole", "whole", "whole", "lax"], 0, told), 3)
        self.assertEqual(program_shield_fault(rows, ["whole", "lax", "whole", "whole"], 0, told), 2)

    def test_coarser_shields(self):
        # The writer of the read's key meets the first part, the one that closes the second part.
        rows = texts("1 rk0 wb2", "11 wk0 rk1", "3 rb2 rk0", "3 wk0")
        one, two = [(1, (-1, -1)), (1, (-1, 0))], [(3, (-1,))]
        self.assertEqual(program_shield(rows, 0), [one, two])
        self.assertIsNone(program_shield_fault(rows, ["still"] * 4, 0, [one, two]))
        self.assertIsNone(program_shield_fault(rows, ["still"] * 4, 0, [two, one[::-1]]))
        self.assertEqual(program_shield_fault(rows, ["still"] * 4, 0, [one + two]), 0)
        self.assertEqual(program_shield_fault(rows, ["whole", "whole", "lax", "whole"], 0, [one + two]), 0)
        self.assertIsNone(program_shield_fault(rows, ["whole"] * 4, 0, [one + two]))
        # A coarser one may be without fault, too.
        rows = texts("1 rk0 wb2", "1 wk0", "rb2", "3 wk0")
        one, two = [(1, (-1,))], [(3, (-1,))]
        self.assertEqual(program_shield(rows, 0), [one, two])
        self.assertIsNone(program_shield_fault(rows, ["still"] * 4, 0, [one + two]))

    def test_one_run_is_not_two(self):
        # One run of the second program writes the key and reads the box; no two runs are needed.
        rows = texts("1 rk0 wb2", "1 wk0 rb2")
        self.assertEqual(program_shield_fault(rows, ["still"] * 2, 0, program_shield(rows, 0)), 0)
        # One that writes the key and one that reads the box don't meet, unless by another run.
        rows = texts("1 rk0 wb2", "1 wk0", "rb2")
        self.assertIsNone(program_shield_fault(rows, ["still"] * 3, 0, program_shield(rows, 0)))
        rows = texts("1 rk0 wb2", "1 wk0", "rb2 wb3", "1 rk0 rb3")
        self.assertEqual(program_shield_fault(rows, ["still"] * 4, 0, program_shield(rows, 0)), 0)

    def test_all_partings_against_the_words(self):
        chance = random.Random(84)
        found = set()
        sets = list(random_programs(85, 90, (1, 2, 3), 2, 4)) + list(random_programs(86, 40, (3, 4), 2, 3, 4))
        for rows in sets:
            for number in range(len(rows)):
                seen = Seen(rows, number)
                if len(seen.aside) > 6:
                    continue
                levels = [chance.choice(("lax", "still", "whole", "whole")) for row in rows]
                for parts in partings(seen.aside):
                    told = seen.fault(levels, parts)
                    chance.shuffle(parts)
                    for part in parts:
                        chance.shuffle(part)
                    self.assertEqual(program_shield_fault(rows, levels, number, parts), told)
                    found.add(told)
                    if parts:
                        lacking = parts[1:] if chance.random() < 0.5 else [parts[0][1:]] + parts[1:]
                        wrong = "lacks" if [] not in lacking else "form"
                        self.assertEqual(program_shield_fault(rows, levels, number, lacking), wrong)
        self.assertLessEqual({None, "lacks", 0, 1}, found)


class Promise(unittest.TestCase):
    def test_safe_just_where_each_shield_is_without_fault(self):
        chance = random.Random(87)
        found = set()
        for rows in random_programs(88, 200, (1, 2, 3, 4), 2, 6):
            for levels in [[chance.choice(LEVELS) for row in rows], least_of_all(rows), ["whole"] * len(rows)]:
                faults = [
                    program_shield_fault(rows, levels, number, program_shield(rows, number)) for number in range(len(rows))
                ]
                right = faults == [None] * len(rows)
                self.assertIs(safe_programs(rows, levels), right)
                self.assertIs(unsafe_cast(rows, levels) is None, right)
                found.add(right)
        self.assertEqual(found, {True, False})

    def test_a_shield_without_fault_is_right_whoever_wrote_it(self):
        chance = random.Random(89)
        right = 0
        for rows in random_programs(90, 40, (1, 2, 3), 2, 4):
            worths = enough_keys(rows)
            if len(worths) > 4:
                continue
            pool = Pool(rows, worths)
            for levels in chance.sample(all_levels(len(rows)), 3):
                own = pool.levels_of(levels)
                for number, one in enumerate(pool.firsts):
                    places = [at for at, step in enumerate(pool.runs[one]) if step[0] == "read"]
                    cuts = [at for at in places if pool.row_size(own, one, at) is not None]
                    finest = program_shield(rows, number)
                    self.assertIs(program_shield_fault(rows, levels, number, finest) is None, not cuts)
                    coarse = [[sight for part in finest for sight in part]] if finest else []
                    if program_shield_fault(rows, levels, number, coarse) is None:
                        self.assertEqual(cuts, [])
                        right += 1
        self.assertGreater(right, 50)


class Refusals(unittest.TestCase):
    def test_no_programs_comes_first(self):
        for at, wrong in enumerate(no_programs()):
            for number in (0, -1, None, Hostile()):
                for asked in (sights, program_shield):
                    with self.assertRaises(NoPrograms, msg=at):
                        asked(wrong, number)
                for levels, thing in ((["lax"], []), (None, None), (Hostile(), Hostile())):
                    with self.assertRaises(NoPrograms, msg=at):
                        program_shield_fault(wrong, levels, number, thing)

    def test_no_levels_comes_next(self):
        for rows in (texts("1 rk0"), texts("1 rk0", "rb5 wb6")):
            for at, wrong in enumerate(no_levels(len(rows))):
                for number, thing in ((0, []), (-1, None), (None, Hostile()), (Hostile(), [[0]])):
                    with self.assertRaises(NoLevels, msg=at):
                        program_shield_fault(rows, wrong, number, thing)

    def test_no_number_comes_last_whatever_the_thing_is(self):
        rows = texts("1 rk0", "rb5 wb6")
        for at, number in enumerate(things() + [-1, 2, 4, True, False, 1.0, "0", None, [0], (0,), {0}, {}, Hostile()]):
            for asked in (sights, program_shield):
                with self.assertRaises(NoNumber, msg=at):
                    asked(rows, number)
            for thing in ([], None, [[(0, (-1,))]], "thing", Hostile()):
                with self.assertRaises(NoNumber, msg=at):
                    program_shield_fault(rows, ["lax"] * 2, number, thing)


class Handed(unittest.TestCase):
    def test_by_name(self):
        rows = texts("1 rk0")
        self.assertEqual(sights(number=0, programs=rows), [(0, (-1,)), (0, (0,))])
        self.assertEqual(program_shield(number=0, programs=rows), [[(0, (-1,))], [(0, (0,))]])
        self.assertEqual(program_shield_fault(thing=[], number=0, levels=["lax"], programs=rows), "lacks")

    def test_the_interface(self):
        for name, names in (
            ("sights", ["programs", "number"]), ("program_shield", ["programs", "number"]),
            ("program_shield_fault", ["programs", "levels", "number", "thing"]),
        ):
            asked = getattr(module, name)
            self.assertEqual(list(inspect.signature(asked).parameters), names)
            self.assertEqual(asked.__module__, "asifalone.sights")

    def test_told_lists_are_new_and_nothing_is_changed(self):
        rows, levels = texts("1 rk0", "1 wk0"), ["lax", "still"]
        given = [[[(0, (0,))], [(1, (-1,)), (0, (-1,))]], [[(0, (0,))], [[1]]], {"a": [1]}, [[{}]]]
        before = copy.deepcopy((rows, levels, given))
        for turn in range(2):
            told = sights(rows, 0)
            self.assertIs(type(told), list)
            self.assertEqual(told, [(0, (-1,)), (0, (0,)), (1, (-1,)), (1, (0,))])
            self.assertTrue(all(type(sight) is tuple and type(sight[1]) is tuple for sight in told))
            told.clear()
            parts = program_shield(rows, 0)
            self.assertEqual(parts, [[(0, (-1,)), (1, (-1,))], [(0, (0,))]])
            self.assertTrue(all(type(part) is list for part in parts))
            parts[0].clear()
            parts.clear()
            self.assertEqual([program_shield_fault(rows, levels, 0, thing) for thing in given], [None] + ["form"] * 3)
        self.assertEqual((rows, levels, given), before)


if __name__ == "__main__":
    unittest.main()
