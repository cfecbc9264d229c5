"""[17] to [19]: cuts, their faults and their weavings; [2], [3] and [7] of them."""

import copy
import inspect
import itertools
import random
import unittest

from anything import Hostile, all_cuts, all_levels, all_weavings, no_dealings, no_levels, plain_cut_fault
from anything import random_sets, right_cuts, small_sets, steps, things
from asifalone import cuts
from asifalone.cuts import Cut, cut_fault, cut_weaving
from asifalone.errors import NoCut, NoDealings, NoLevels
from asifalone.runs import Run, barred
from asifalone.weavings import weaving_fault


def texts(*rows):
    """The dealings of these texts."""
    return [steps(row) for row in rows]


def fault(rows, levels, one, at, row):
    """What cut_fault tells; the levels by their first signs, as "lsw"."""
    words = {"l": "lax", "s": "still", "w": "whole"}
    return cut_fault(texts(*rows), [words[sign] for sign in levels], Cut(one, at, row))


class Fields(unittest.TestCase):
    def test_fields(self):
        row = [2, 1]
        cut = Cut(0, 3, row)
        self.assertEqual((cut.one, cut.at, cut.row), (0, 3, [2, 1]))
        self.assertIs(type(cut.row), list)
        self.assertIsNot(cut.row, row)
        row.append(7)
        self.assertEqual(cut.row, [2, 1])

    def test_the_row_is_the_list_itself(self):
        cut = Cut(0, 3, [2, 1])
        self.assertIs(cut.row, cut.row)
        cut.row.append(9)
        self.assertEqual(cut.row, [2, 1, 9])
        self.assertEqual(str(cut), "0.3:2,1,9")
        self.assertTrue(cut == Cut(0, 3, [2, 1, 9]))
        self.assertFalse(cut == Cut(0, 3, [2, 1]))
        dealings = texts("r1 w2", "w1", "r1")
        cut = Cut(0, 0, [1])
        self.assertEqual(cut_fault(dealings, ["still"] * 3, cut), "close")
        cut.row.append(9)
        self.assertEqual(cut_fault(dealings, ["still"] * 3, cut), "form")
        cut.row[:] = [2]
        self.assertEqual(cut_fault(dealings, ["still"] * 3, cut), "first")
        cut.row = (1,)
        self.assertEqual(cut_fault(dealings, ["still"] * 3, cut), "form")

    def test_nothing_is_refused(self):
        for at, thing in enumerate(things()):
            for cut in (Cut(thing, 0, [1]), Cut(0, thing, [1]), Cut(0, 0, thing), Cut(thing, thing, thing)):
                self.assertIs(type(cut), Cut, at)
            cut = Cut(thing, thing, thing)
            self.assertIs(cut.one, thing)
            self.assertIs(cut.at, thing)
            if isinstance(thing, list):
                self.assertIsNot(cut.row, thing)
                self.assertEqual(len(cut.row), len(thing))
            else:
                self.assertIs(cut.row, thing)

    def test_equality(self):
        made = [(one, at, row) for one in (0, 1) for at in (0, 2) for row in ([1], [2], [1, 2], [2, 1], [], (1,), None)]
        for one, other in itertools.product(made, repeat=2):
            self.assertIs(Cut(*one) == Cut(*other), one == other)
            self.assertIs(Cut(*one) != Cut(*other), one != other)

    def test_equality_by_the_fields_as_they_stand(self):
        one, other = Cut(0, 1, [2]), Cut(3, 1, [2])
        self.assertFalse(one == other)
        other.one = 0
        self.assertTrue(one == other)
        one.at = 5
        self.assertFalse(one == other)
        other.at = 5
        one.row = [2, 3]
        self.assertFalse(one == other)
        other.row.append(3)
        self.assertTrue(one == other)

    def test_equal_to_nothing_else(self):
        cut = Cut(0, 1, [2])
        for at, thing in enumerate(things() + [(0, 1, [2]), [0, 1, [2]], "0.1:2", Cut]):
            self.assertIs(cut == thing, False, at)
            self.assertIs(cut != thing, True, at)

    def test_text(self):
        for given, told in (
            ((0, 1, [2]), "0.1:2"), ((12, 0, [3, 99, 0]), "12.0:3,99,0"), ((5, 7, []), "5.7:"),
            ((10 ** 59, -1, [-2]), f"{10 ** 59}.-1:-2"),
        ):
            self.assertEqual(str(Cut(*given)), told)
            self.assertIs(type(str(Cut(*given))), str)
        self.assertEqual(f"{Cut(1, 2, [3, 4])}", "1.2:3,4")
        # Not promised, but of use where a wrong cut is looked at.
        self.assertEqual(str(Cut(None, "at", (1, 2))), "None.at:(1, 2)")


class Forms(unittest.TestCase):
    def test_of_anything(self):
        dealings = texts("r1 w2", "w1 r2", "r1")
        for at, thing in enumerate(things() + [(0, 0, [1]), "0.0:1", [0, 0, [1]], {"one": 0}, Cut, Hostile()]):
            self.assertEqual(cut_fault(dealings, ["lax"] * 3, thing), "form", at)
            with self.assertRaises(NoCut, msg=at):
                cut_weaving(dealings, thing)

    def test_each_field_of_anything(self):
        dealings = texts("r1 w2", "w1 r2", "r1")
        no_one = things() + [-1, 3, 100, True, False, 0.0, "0", None, [0], Hostile()]
        no_at = things() + [-1, 2, 9, True, False, 0.0, "0", None, [0], Hostile()]
        no_row = things() + [
            [], [0], [1, 0], [0, 1], [3], [-1], [1, 1], [1, 2, 1], [True], [1, True], [1.0], ["1"], [None], [1, None],
            (1,), {1: 1}, {1}, 1, [[1]], [1, Hostile()], [10 ** 60],
        ]
        wrong = [(one, 0, [1]) for one in no_one] + [(0, at, [1]) for at in no_at] + [(0, 0, row) for row in no_row]
        self.assertIsNone(cut_fault(dealings, ["lax"] * 3, Cut(0, 0, [1])))
        for at, given in enumerate(wrong):
            self.assertEqual(cut_fault(dealings, ["lax"] * 3, Cut(*given)), "form", at)
            with self.assertRaises(NoCut, msg=at):
                cut_weaving(dealings, Cut(*given))

    def test_the_place_is_one_of_this_dealing(self):
        dealings = texts("r1", "w1 r2 r3")
        self.assertEqual(cut_fault(dealings, ["lax"] * 2, Cut(0, 1, [1])), "form")
        self.assertEqual(cut_fault(dealings, ["lax"] * 2, Cut(1, 2, [0])), "first")
        self.assertEqual(cut_fault(dealings, ["lax"] * 2, Cut(1, 3, [0])), "form")

    def test_no_cut_just_where_the_form_is_none(self):
        dealings = texts("r1 w2", "w1 r2", "r1")
        for one, at in itertools.product(range(-1, 4), repeat=2):
            for many in range(4):
                for row in itertools.product(range(-1, 4), repeat=many):
                    cut = Cut(one, at, list(row))
                    if cut_fault(dealings, ["still"] * 3, cut) == "form":
                        with self.assertRaises(NoCut):
                            cut_weaving(dealings, cut)
                    else:
                        self.assertIsNone(weaving_fault(dealings, cut_weaving(dealings, cut)))


class Clauses(unittest.TestCase):
    def test_read(self):
        for levels in ("ll", "ss", "ww"):
            self.assertEqual(fault(("w1 r2 w3", "w1"), levels, 0, 0, [1]), "read")
            self.assertEqual(fault(("w1 r2 w3", "w1"), levels, 0, 2, [1]), "read")
            self.assertEqual(fault(("w1 r2 w3", "w1"), levels, 0, 1, [1]), "first")

    def test_first(self):
        self.assertEqual(fault(("r1 r2", "r1", "w2"), "lll", 0, 0, [1]), "first")
        self.assertEqual(fault(("r1 r2", "r1", "w2"), "lll", 0, 0, [2, 1]), "first")
        self.assertEqual(fault(("r1 r2", "r3 w1", "w1"), "lll", 0, 1, [1]), "first")
        # Ahead of "held" and "late".
        self.assertEqual(fault(("w3 r1", "w3"), "ww", 0, 1, [1]), "first")

    def test_held(self):
        for sign in "lsw":
            self.assertEqual(fault(("w3 r1 w4", "w1 w3 r4"), sign + "w", 0, 1, [1]), "held")
            self.assertEqual(fault(("w3 r1 w4", "w1 r5", "w5 w3 r4"), sign + "ww", 0, 1, [1, 2]), "held")
        # Places behind at do not hold.
        self.assertIsNone(fault(("r1 w4", "w1 w4"), "ll", 0, 0, [1]))

    def test_late(self):
        self.assertIsNone(fault(("r1 w4", "w1 w4"), "lw", 0, 0, [1]))
        for sign in "sw":
            self.assertEqual(fault(("r1 w4", "w1 w4"), sign + "w", 0, 0, [1]), "late")
            self.assertEqual(fault(("r1 w4", "w1", "w4"), sign + "ww", 0, 0, [1, 2]), "late")
        self.assertEqual(fault(("r1 w4", "w1", "w4"), "lww", 0, 0, [1, 2]), "chain")

    def test_chain(self):
        rows = ("r1 w4", "w1 r2", "w2 r3", "w3 r4")
        for sign in "ls":
            self.assertIsNone(fault(rows, sign * 4, 0, 0, [1, 2, 3]))
            self.assertEqual(fault(rows, sign * 4, 0, 0, [1, 3]), "chain")
            self.assertEqual(fault(rows, sign * 4, 0, 0, [1, 3, 2]), "chain")
            self.assertEqual(fault(rows, sign * 4, 0, 0, [1, 2]), "close")
        # Two that read the same do not clash.
        self.assertEqual(fault(("r1 w4", "w1 r2", "r2 r4"), "lll", 0, 0, [1, 2]), "chain")
        # Neighbours only: the first and the last need not clash.
        self.assertIsNone(fault(("r1 w4", "w1 w9", "r9 r8", "w8 r4"), "ssss", 0, 0, [1, 2, 3]))

    def test_close_at_each_level(self):
        for sign in "sw":
            # What it reads is written at any place, ahead of at, too.
            self.assertIsNone(fault(("r1 w4", "w1 r4"), sign + "s", 0, 0, [1]))
            self.assertIsNone(fault(("w4 r1", "w1 r4"), sign + "s", 0, 1, [1]))
            # What it writes is read behind at; what it touches is written there.
            self.assertEqual(fault(("r1 r2", "w1 w2"), sign + "s", 0, 0, [1]), "close")
            self.assertEqual(fault(("r1 w5", "w1"), sign + "s", 0, 0, [1]), "close")
        self.assertIsNone(fault(("r1 w4", "w1 r4"), "ls", 0, 0, [1]))
        self.assertIsNone(fault(("w4 r1", "w1 r4"), "ls", 0, 1, [1]))
        self.assertIsNone(fault(("r1 r2", "w1 w2"), "ls", 0, 0, [1]))
        self.assertIsNone(fault(("r1 w2", "w1 w2"), "ls", 0, 0, [1]))
        self.assertIsNone(fault(("r1 w1", "w1"), "ls", 0, 0, [1]))
        self.assertEqual(fault(("r1", "w1"), "ls", 0, 0, [1]), "close")
        self.assertEqual(fault(("r2 r1", "w1 w2"), "ls", 0, 1, [1]), "close")
        self.assertEqual(fault(("r1 r2", "w1 r2"), "ls", 0, 0, [1]), "close")
        # It reads the box of 1 at a place ahead of at.
        self.assertEqual(fault(("r1 r2 w5", "w1 w2"), "ls", 0, 1, [1]), "close")

    def test_barred(self):
        rows = ("r1 w4", "w1 r4")
        self.assertEqual(fault(rows, "ww", 0, 0, [1]), "barred")
        for levels in ("ll", "ls", "lw", "sl", "ss", "sw", "wl", "ws"):
            self.assertIsNone(fault(rows, levels, 0, 0, [1]))

    def test_barred_by_two(self):
        rows = ("r1 w4", "w1 r2", "w2 r4")
        for levels in itertools.product("lsw", repeat=3):
            told = "barred" if levels == ("w", "w", "w") else None
            self.assertEqual(fault(rows, levels, 0, 0, [1, 2]), told)

    def test_barred_by_some_in_the_middle(self):
        # 1 and 5 need not be whole: 2 and 4 do, for all that one reads and writes counts.
        rows = ("r1 r2 w3 w4", "w1 w10", "r10 w2 w11", "w11 w12", "w12 r3 w13", "r13 r4")
        row = [1, 2, 3, 4, 5]
        self.assertEqual(fault(rows, "wlwlwl", 0, 0, row), "barred")
        self.assertEqual(fault(rows, "wwllwl", 0, 0, row), "barred")
        self.assertEqual(fault(rows, "wlwllw", 0, 0, row), "barred")
        self.assertIsNone(fault(rows, "wlwlll", 0, 0, row))
        self.assertIsNone(fault(rows, "wlllwl", 0, 0, row))
        self.assertIsNone(fault(rows, "wwwlll", 0, 0, row))
        self.assertIsNone(fault(rows, "wlllww", 0, 0, row))
        self.assertIsNone(fault(rows, "wllwll", 0, 0, row))
        self.assertIsNone(fault(rows, "slwlwl", 0, 0, row))

    def test_the_latter_ahead_of_the_former(self):
        # 2 reads what one writes, and stands ahead of 3, which writes what one reads.
        rows = ("r1 r2 w3 w4", "w1 w10", "r10 r3 w11", "w11 w2 w12", "r12 r4")
        self.assertIsNone(fault(rows, "wlwwl", 0, 0, [1, 2, 3, 4]))
        self.assertEqual(fault(rows, "wlwww", 0, 0, [1, 2, 3, 4]), "barred")
        self.assertEqual(fault(rows, "wwwwl", 0, 0, [1, 2, 3, 4]), "barred")

    def test_one_that_is_both(self):
        rows = ("r1 w3 w4", "w1 w10", "r10 r3 w11", "w11 r4")
        self.assertIsNone(fault(rows, "wlwl", 0, 0, [1, 2, 3]))
        rows = ("r1 r2 w3 w4", "w1 w10", "r10 r3 w2 w11", "w11 r4")
        self.assertEqual(fault(rows, "wlwl", 0, 0, [1, 2, 3]), "barred")

    def test_the_first_word_of_several(self):
        # Each row takes away the fault ahead.
        self.assertEqual(fault(("w3 r1 w4", "w3", "w9"), "www", 0, 0, [1, 2]), "read")
        self.assertEqual(fault(("w3 r1 w4", "w3", "w9"), "www", 0, 1, [1, 2]), "first")
        self.assertEqual(fault(("w3 r1 w4", "w1 w3 w4", "w9"), "www", 0, 1, [1, 2]), "held")
        self.assertEqual(fault(("w3 r1 w4", "w1 w4 r3", "w9"), "www", 0, 1, [1, 2]), "late")
        self.assertEqual(fault(("w3 r1 w4", "w1 r3", "w9"), "www", 0, 1, [1, 2]), "chain")
        self.assertEqual(fault(("w3 r1 w4", "w1 r3 r9", "w9"), "www", 0, 1, [1, 2]), "close")
        self.assertEqual(fault(("w3 r1 w4", "w1 r3 r9", "w9 r4"), "www", 0, 1, [1, 2]), "barred")
        self.assertIsNone(fault(("w3 r1 w4", "w1 r3 r9", "w9 r4"), "wlw", 0, 1, [1, 2]))

    def test_against_the_clauses(self):
        chance = random.Random(3)
        words = set()
        for dealings in random_sets(4, 500, (2, 3, 4), (1, 2, 3, 4), 4):
            levels = [chance.choice(("lax", "still", "whole", "whole")) for dealing in dealings]
            for given in all_cuts(dealings):
                told = plain_cut_fault(dealings, levels, *given)
                self.assertEqual(cut_fault(dealings, levels, Cut(*given)), told)
                words.add(told)
        self.assertEqual(words, {None, "read", "first", "held", "late", "chain", "close", "barred"})


class Weavings(unittest.TestCase):
    def test_the_weaving(self):
        dealings = texts("r1 w2", "w1", "r5", "w5 r2 w6", "r7")
        self.assertEqual(cut_weaving(dealings, Cut(0, 0, [1])), [0, 1, 1, 0, 0, 2, 2, 3, 3, 3, 3, 4, 4])
        self.assertEqual(cut_weaving(dealings, Cut(0, 1, [4, 2])), [0, 0, 4, 4, 2, 2, 0, 1, 1, 3, 3, 3, 3])
        self.assertEqual(cut_weaving(dealings, Cut(3, 2, [0])), [3, 3, 3, 0, 0, 0, 3, 1, 1, 2, 2, 4, 4])
        self.assertEqual(cut_weaving(dealings, Cut(3, 0, [4, 2, 1, 0])), [3, 4, 4, 2, 2, 1, 1, 0, 0, 0, 3, 3, 3])

    def test_faults_other_than_the_form_are_no_matter(self):
        dealings = texts("w1", "r9")
        self.assertEqual(cut_weaving(dealings, Cut(0, 0, [1])), [0, 1, 1, 0])

    def test_without_fault_it_is_let_by_and_has_a_ring(self):
        chance = random.Random(5)
        found = 0
        for dealings in random_sets(6, 500, (2, 3, 4, 5), (1, 2, 3, 4), 3):
            levels = [chance.choice(("lax", "still", "whole")) for dealing in dealings]
            for one, at, row in right_cuts(dealings, levels):
                cut = Cut(one, at, row)
                self.assertIsNone(cut_fault(dealings, levels, cut))
                weaving = cut_weaving(dealings, cut)
                self.assertIsNone(barred(dealings, levels, weaving))
                self.assertIsNotNone(Run(dealings, levels, weaving).ring(through=one))
                found += 1
        self.assertGreater(found, 100)

    def test_where_a_weaving_has_a_ring_some_cut_is_without_fault(self):
        # Every weaving of every set, at all levels.
        found = set()
        rows = [texts("r1 w2", "r2 w1"), texts("r1 w1", "w1"), texts("r1 r2", "w1 w2"), texts("r1 w2", "w1", "r2")]
        rows += list(random_sets(9, 12, (2, 3), (1, 2), 2)) + list(random_sets(10, 12, (2,), (1, 2, 3), 3))
        for dealings in rows:
            weavings = all_weavings(dealings)
            for levels in all_levels(len(dealings)):
                rings = False
                for weaving in weavings:
                    if barred(dealings, levels, weaving) is None and Run(dealings, levels, weaving).ring() is not None:
                        rings = True
                        break
                told = [cut for cut in all_cuts(dealings) if cut_fault(dealings, levels, Cut(*cut)) is None]
                self.assertIs(rings, bool(told), (dealings, levels))
                found.add(rings)
        self.assertEqual(found, {True, False})

    def test_a_hundred(self):
        dealings = [(("read", number), ("write", (number + 1) % 100)) for number in range(100)]
        cut = Cut(0, 0, list(range(99, 0, -1)))
        self.assertIsNone(cut_fault(dealings, ["still"] * 100, cut))
        self.assertEqual(cut_fault(dealings, ["whole"] * 100, cut), "barred")
        run = Run(dealings, ["still"] * 100, cut_weaving(dealings, cut))
        self.assertEqual(len(run.ring(through=0)), 100)


class Refusals(unittest.TestCase):
    def test_no_dealings_comes_first(self):
        for at, wrong in enumerate(no_dealings()):
            for levels, cut in ((["lax"], Cut(0, 0, [1])), (None, None), (Hostile(), Hostile())):
                with self.assertRaises(NoDealings, msg=at):
                    cut_fault(wrong, levels, cut)
                with self.assertRaises(NoDealings, msg=at):
                    cut_weaving(wrong, cut)

    def test_no_levels_comes_next(self):
        for dealings in small_sets()[:6]:
            for at, wrong in enumerate(no_levels(len(dealings))):
                for cut in (None, Cut(0, 0, [1]), Cut(0, 0, []), Hostile()):
                    with self.assertRaises(NoLevels, msg=at):
                        cut_fault(dealings, wrong, cut)


class Handed(unittest.TestCase):
    def test_by_name(self):
        dealings = texts("r1 w2", "r2 w1")
        cut = Cut(row=[1], one=0, at=0)
        self.assertTrue(cut == Cut(0, 0, [1]))
        self.assertIsNone(cut_fault(cut=cut, levels=["still", "whole"], dealings=dealings))
        self.assertEqual(cut_weaving(cut=cut, dealings=dealings), [0, 1, 1, 1, 0, 0])

    def test_the_interface(self):
        for name, names in (
            ("Cut", ["one", "at", "row"]), ("cut_fault", ["dealings", "levels", "cut"]),
            ("cut_weaving", ["dealings", "cut"]),
        ):
            asked = getattr(cuts, name)
            self.assertEqual(list(inspect.signature(asked).parameters), names)
            self.assertEqual(asked.__module__, "asifalone.cuts")
        for name in ("__init__", "__eq__", "__str__"):
            self.assertIn(name, vars(Cut))

    def test_told_lists_are_new(self):
        dealings = texts("r1 w2", "r2 w1")
        cut = Cut(0, 0, [1])
        first = cut_weaving(dealings, cut)
        self.assertIs(type(first), list)
        first.append("spoilt")
        self.assertEqual(cut_weaving(dealings, cut), [0, 1, 1, 1, 0, 0])

    def test_nothing_handed_in_is_changed(self):
        dealings, levels, cut = texts("r1 w2", "r2 w1", "w1"), ["lax", "still", "whole"], Cut(0, 0, [1])
        wrong = [[0, [1]], {"row": [1]}, Cut([0], {}, [[1]])]
        before = copy.deepcopy((dealings, levels, wrong))
        for thing in [cut] + wrong:
            cut_fault(dealings, levels, thing)
        cut_weaving(dealings, cut)
        for thing in wrong:
            with self.assertRaises(NoCut):
                cut_weaving(dealings, thing)
        self.assertEqual((cut.one, cut.at, cut.row), (0, 0, [1]))
        self.assertTrue((dealings, levels, wrong) == before)


if __name__ == "__main__":
    unittest.main()
