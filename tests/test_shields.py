"""[22] and [23]: shields and their faults; [2], [3] and [7] of them."""

import copy
import inspect
import itertools
import random
import unittest

from anything import Hostile, all_levels, clash, does_close, is_free, no_dealings, no_levels, random_sets, right_cuts
from anything import row_barred, small_sets, steps, things, writes
from asifalone import shields
from asifalone.errors import NoDealings, NoLevels, NoNumber
from asifalone.least import least_levels, safe, unsafe
from asifalone.shields import shield, shield_fault

LEVELS = ("lax", "still", "whole")


def texts(*rows):
    """The dealings of these texts."""
    return [steps(row) for row in rows]


def aside(dealings, number):
    """The numbers aside of a dealing."""
    others = [other for other in range(len(dealings)) if other != number]
    return [other for other in others if not clash(dealings[number], dealings[other])]


def partings(numbers):
    """All lists of parts of these numbers: parts by their first numbers, numbers rising."""
    if not numbers:
        return [[]]
    told = []
    for rest in partings(numbers[1:]):
        told.append([[numbers[0]]] + rest)
        for place, part in enumerate(rest):
            told.append([[numbers[0]] + part] + rest[:place] + rest[place + 1:])
    return told


def is_shield(dealings, parts):
    """Whether in this parting none clashes with one of another part."""
    for one, other in itertools.permutations(parts, 2):
        if any(clash(dealings[mine], dealings[theirs]) for mine in one for theirs in other):
            return False
    return True


def do_lead(dealings, levels, one, at, parts):
    """Whether two others lead to one another for a read of one, by the words of [22]."""
    others = [other for other in range(len(dealings)) if other != one]
    free = [other for other in others if is_free(dealings, levels, one, at, other)]
    for first, last in itertools.product(free, repeat=2):
        if dealings[one][at][1] not in writes(dealings[first]) or not does_close(dealings, levels, one, at, last):
            continue
        meets = first == last or clash(dealings[first], dealings[last])
        for part in parts:
            by_first = any(clash(dealings[first], dealings[other]) for other in part)
            meets = meets or by_first and any(clash(dealings[last], dealings[other]) for other in part)
        if meets and not row_barred(dealings, levels, one, [first] if first == last else [first, last]):
            return True
    return False


def plain_fault(dealings, levels, one, parts):
    """What [22] says of a parting of all that are aside, each in one part."""
    if not is_shield(dealings, parts):
        return "lacks"
    for at, (word, box) in enumerate(dealings[one]):
        if word == "read" and do_lead(dealings, levels, one, at, parts):
            return at
    return None


class Shields(unittest.TestCase):
    def test_by_hand(self):
        dealings = texts("r1 w2", "w1", "r2", "w5", "r5", "r6", "w7", "r7 r8", "w8", "r1")
        self.assertEqual(shield(dealings, 0), [[3, 4], [5], [6, 7, 8], [9]])
        self.assertEqual(shield(dealings, 5), [[0, 1, 2, 9], [3, 4], [6, 7, 8]])
        self.assertEqual(shield(dealings, 7), [[0, 1, 2, 9], [3, 4], [5]])
        self.assertEqual(shield(texts("r1"), 0), [])
        self.assertEqual(shield(texts("r1", "w1"), 0), [])
        self.assertEqual(shield(texts("r1", "r1"), 0), [[1]])
        self.assertEqual(shield(texts("r1", "r1"), 1), [[0]])

    def test_parts_by_their_first_numbers_and_numbers_rising(self):
        dealings = texts("r99", "w1", "w2", "w3", "r3 r1", "w4", "r2 r4") + texts(*["r50"] * 4) + texts("w50 r1")
        self.assertEqual(shield(dealings, 0), [[1, 3, 4, 7, 8, 9, 10, 11], [2, 5, 6]])

    def test_one_itself_is_in_no_part(self):
        dealings = texts("r1", "r1", "r1")
        for number in range(3):
            self.assertEqual(shield(dealings, number), [[other] for other in range(3) if other != number])

    def test_most_parts_of_all_partings(self):
        sizes = set()
        for dealings in random_sets(22, 150, (3, 5, 6), (1, 2, 3, 4, 5, 6), 2):
            for number in range(len(dealings)):
                right = [parts for parts in partings(aside(dealings, number)) if is_shield(dealings, parts)]
                most = max(len(parts) for parts in right)
                right = [sorted(parts) for parts in right if len(parts) == most]
                self.assertEqual([shield(dealings, number)], right)
                sizes.add(most)
        self.assertLessEqual({0, 1, 2, 3}, sizes)

    def test_a_hundred(self):
        dealings = [(("read", number), ("write", number + 1)) for number in range(100)]
        self.assertEqual(shield(dealings, 0), [list(range(2, 100))])
        self.assertEqual(shield(dealings, 50), [list(range(49)), list(range(52, 100))])
        self.assertEqual(shield([steps("r1")] * 100, 3), [[number] for number in range(100) if number != 3])

    def test_no_number(self):
        dealings = texts("r1 w2", "r2 w1")
        for at, number in enumerate(things() + [-1, 2, 100, True, False, 1.0, "0", None, [0], {0}, Hostile()]):
            with self.assertRaises(NoNumber, msg=at):
                shield(dealings, number)


class Faults(unittest.TestCase):
    def test_form(self):
        # 2, 3, 4 are aside of 0.
        dealings = texts("r1 w2", "w1", "r5", "w5", "r9")
        self.assertIsNone(shield_fault(dealings, ["lax"] * 5, 0, [[2, 3], [4]]))
        wrong = things() + [
            [[2, 3], [4], []], [[]], [[2, 3], 4], [2, 3, 4], [[2, 3], (4,)], ([2, 3], [4]), {0: [2, 3]}, [[2, 3], None],
            [[2, 3, 0], [4]], [[2, 3, 1], [4]], [[2, 3], [4, 5]], [[2, 3], [4, -1]], [[2, 3], [4, True]],
            [[2, 3], [4, False]], [[2, 3], [4.0]], [[2, 3], ["4"]], [[2, 3], [None]], [[2, 3], [[4]]], [[2, 3], [4, 4]],
            [[2, 3], [4, 2]], [[2, 3], [4], [4]], [[2, 3], [4, Hostile()]], [[2, 3], Hostile()], [[2, 3], [10 ** 60]],
            [[1]], [[0]], "shield",
        ]
        for at, thing in enumerate(wrong):
            self.assertEqual(shield_fault(dealings, ["lax"] * 5, 0, thing), "form", at)

    def test_lacks(self):
        dealings = texts("r1 w2", "w1", "r5", "w5", "r9")
        for thing in ([], [[2, 3]], [[4]], [[2], [4]], [[2], [3], [4]], [[2, 4], [3]], [[2], [3, 4]], [[2, 4]]):
            self.assertEqual(shield_fault(dealings, ["lax"] * 5, 0, thing), "lacks", thing)
        for thing in ([[2, 3], [4]], [[4], [3, 2]], [[3, 2], [4]], [[2, 3, 4]], [[4, 2, 3]]):
            self.assertIsNone(shield_fault(dealings, ["lax"] * 5, 0, thing), thing)

    def test_form_ahead_of_lacks_ahead_of_places(self):
        dealings = texts("r1 w2", "w1 r2", "r5", "w5")
        self.assertEqual(shield_fault(dealings, ["lax"] * 4, 0, [[2], [3], [3]]), "form")
        self.assertEqual(shield_fault(dealings, ["lax"] * 4, 0, [[2], [1]]), "form")
        self.assertEqual(shield_fault(dealings, ["lax"] * 4, 0, [[2], [3]]), "lacks")
        self.assertEqual(shield_fault(dealings, ["lax"] * 4, 0, [[2, 3]]), 0)

    def test_nobody_aside(self):
        dealings = texts("r1", "w1")
        self.assertIsNone(shield_fault(dealings, ["lax"] * 2, 0, []))
        self.assertEqual(shield_fault(dealings, ["lax"] * 2, 0, [[]]), "form")

    def test_the_place_of_the_first_read(self):
        dealings = texts("w9 r7 r1 r3 w2", "w1 w4", "r4 r2", "w3 r2")
        told = shield(dealings, 0)
        self.assertEqual(shield_fault(dealings, ["still"] * 4, 0, told), 2)
        # Where all are whole, all that lead are barred.
        self.assertIsNone(shield_fault(dealings, ["whole"] * 4, 0, told))
        self.assertEqual(shield_fault(dealings, ["whole", "whole", "whole", "lax"], 0, told), 3)
        self.assertEqual(shield_fault(dealings, ["whole", "whole", "lax", "whole"], 0, told), 2)
        self.assertEqual(shield_fault(dealings, ["whole", "lax", "whole", "whole"], 0, told), 2)

    def test_the_same_one_two_that_clash_and_by_a_part(self):
        for rows in (
            ("r1 w2", "w1 r2"), ("r1 w2", "w1 w4", "r4 r2"), ("r1 w2", "w1 r4", "w4", "r4 r2"),
            ("r1 w2", "w1 r4", "w4 r5", "w5 r6", "w6 r7", "w7 r2"),
        ):
            dealings = texts(*rows)
            for level in ("lax", "still"):
                levels = [level] + ["whole"] * (len(dealings) - 1)
                self.assertEqual(shield_fault(dealings, levels, 0, shield(dealings, 0)), 0, rows)
            self.assertIsNone(shield_fault(dealings, ["whole"] * len(dealings), 0, shield(dealings, 0)), rows)

    def test_free(self):
        # 1 writes and closes, but holds one, or makes it late.
        dealings = texts("w3 r1 w2", "w1 w3 r2")
        for level in LEVELS:
            self.assertIsNone(shield_fault(dealings, [level, "lax"], 0, []))
        dealings = texts("r1 w3 w2", "w1 w3 r2")
        self.assertEqual(shield_fault(dealings, ["lax", "lax"], 0, []), 0)
        self.assertIsNone(shield_fault(dealings, ["still", "lax"], 0, []))
        self.assertIsNone(shield_fault(dealings, ["whole", "lax"], 0, []))

    def test_coarser_shields(self):
        # 1 clashes with 3, and 2 with 4: so 1 leads to 2 where 3 and 4 are in one part, and only there.
        dealings = texts("r1 w2", "w1 r10", "w11 r2", "w10", "r11")
        self.assertEqual(shield(dealings, 0), [[3], [4]])
        self.assertIsNone(shield_fault(dealings, ["still"] * 5, 0, [[3], [4]]))
        self.assertIsNone(shield_fault(dealings, ["still"] * 5, 0, [[4], [3]]))
        self.assertEqual(shield_fault(dealings, ["still"] * 5, 0, [[3, 4]]), 0)
        self.assertIsNone(shield_fault(dealings, ["whole"] * 5, 0, [[3, 4]]))
        # A coarser one may be without fault, too.
        dealings = texts("r1 w2", "w1", "r2", "w10", "r11")
        self.assertIsNone(shield_fault(dealings, ["still"] * 5, 0, [[3, 4]]))

    def test_all_partings_against_the_words(self):
        chance = random.Random(23)
        found = set()
        for dealings in random_sets(24, 250, (3, 4, 5, 6), (1, 2, 3, 4, 5, 6), 3):
            levels = [chance.choice(("lax", "still", "whole", "whole")) for dealing in dealings]
            for number in range(len(dealings)):
                for parts in partings(aside(dealings, number)):
                    told = plain_fault(dealings, levels, number, parts)
                    chance.shuffle(parts)
                    for part in parts:
                        chance.shuffle(part)
                    self.assertEqual(shield_fault(dealings, levels, number, parts), told)
                    found.add(told)
                    if parts:
                        lacking = parts[1:] if chance.random() < 0.5 else [parts[0][1:]] + parts[1:]
                        wrong = "lacks" if [] not in lacking else "form"
                        self.assertEqual(shield_fault(dealings, levels, number, lacking), wrong)
        self.assertLessEqual({None, "lacks", 0, 1, 2}, found)


class Promise(unittest.TestCase):
    def test_safe_just_where_each_shield_is_without_fault(self):
        chance = random.Random(25)
        found = set()
        for dealings in random_sets(26, 500, (1, 2, 3, 4, 5), (1, 2, 3, 4, 5), 3):
            levels = [chance.choice(("lax", "still", "whole", "whole")) for dealing in dealings]
            cuts = right_cuts(dealings, levels)
            faults = [shield_fault(dealings, levels, number, shield(dealings, number)) for number in range(len(dealings))]
            for number, told in enumerate(faults):
                right = [cut for cut in cuts if cut[0] == number]
                self.assertIs(told is None, not right)
                self.assertIs(told is None, unsafe(dealings, levels, one=number) is None)
            self.assertIs(safe(dealings, levels), faults == [None] * len(dealings))
            found.add(faults == [None] * len(dealings))
        self.assertEqual(found, {True, False})

    def test_a_shield_without_fault_is_right_whoever_wrote_it(self):
        found = 0
        for dealings in random_sets(27, 60, (4, 5), (1, 2, 3, 4, 5, 6), 2):
            for levels in all_levels(len(dealings))[::7]:
                cuts = right_cuts(dealings, levels)
                for number in range(len(dealings)):
                    for parts in partings(aside(dealings, number)):
                        if shield_fault(dealings, levels, number, parts) is None:
                            self.assertEqual([cut for cut in cuts if cut[0] == number], [])
                            found += 1
        self.assertGreater(found, 100)

    def test_a_hundred(self):
        for boxes, most in ((40, 8), (150, 8), (400, 4)):
            for dealings in random_sets(boxes, 1, (100,), range(boxes), most):
                for levels in (least_levels(dealings), ["whole"] * 100, ["still"] * 100, ["lax"] * 100):
                    faults = [shield_fault(dealings, levels, number, shield(dealings, number)) for number in range(100)]
                    self.assertIs(safe(dealings, levels), faults == [None] * 100)
                    for number in range(0, 100, 9):
                        self.assertIs(faults[number] is None, unsafe(dealings, levels, one=number) is None)


class Refusals(unittest.TestCase):
    def test_no_dealings_comes_first(self):
        for at, wrong in enumerate(no_dealings()):
            for levels, number, thing in ((["lax"], 0, []), (None, None, None), (Hostile(), Hostile(), Hostile())):
                with self.assertRaises(NoDealings, msg=at):
                    shield_fault(wrong, levels, number, thing)
                with self.assertRaises(NoDealings, msg=at):
                    shield(wrong, number)

    def test_no_levels_comes_next(self):
        for dealings in small_sets()[:6]:
            for at, wrong in enumerate(no_levels(len(dealings))):
                for number, thing in ((0, []), (-1, None), (None, Hostile()), (Hostile(), [[0]])):
                    with self.assertRaises(NoLevels, msg=at):
                        shield_fault(dealings, wrong, number, thing)

    def test_no_number_comes_last_whatever_the_thing_is(self):
        dealings = texts("r1 w2", "r2 w1", "r3")
        numbers = things() + [-1, 3, 100, True, False, 1.0, "0", None, [0], {0}, Hostile()]
        for at, number in enumerate(numbers):
            for thing in ([], None, [[2]], "thing", Hostile()):
                with self.assertRaises(NoNumber, msg=at):
                    shield_fault(dealings, ["lax"] * 3, number, thing)


class Handed(unittest.TestCase):
    def test_by_name(self):
        dealings = texts("r1 w2", "r2 w1", "r3")
        self.assertEqual(shield(number=0, dealings=dealings), [[2]])
        self.assertEqual(shield_fault(thing=[[2]], number=0, levels=["lax"] * 3, dealings=dealings), 0)

    def test_the_interface(self):
        for name, names in (
            ("shield", ["dealings", "number"]), ("shield_fault", ["dealings", "levels", "number", "thing"]),
        ):
            asked = getattr(shields, name)
            self.assertEqual(list(inspect.signature(asked).parameters), names)
            self.assertEqual(asked.__module__, "asifalone.shields")

    def test_told_lists_are_new(self):
        dealings = texts("r1 w2", "r2 w1", "r3")
        first = shield(dealings, 0)
        self.assertIs(type(first), list)
        self.assertIs(type(first[0]), list)
        first[0].append(9)
        first.append("spoilt")
        self.assertEqual(shield(dealings, 0), [[2]])

    def test_nothing_handed_in_is_changed(self):
        dealings, levels = texts("r1 w2", "r2 w1", "r3", "w3", "r4"), ["lax", "still", "whole", "lax", "lax"]
        given = [[[4], [3, 2]], [[2], [3]], [[2, [3]], {}], {"a": [1]}, [[2, 3], [4], [4]]]
        before = copy.deepcopy((dealings, levels, given))
        for thing in given:
            shield_fault(dealings, levels, 0, thing)
            with self.assertRaises(NoNumber):
                shield(dealings, thing)
        self.assertEqual((dealings, levels, given), before)


if __name__ == "__main__":
    unittest.main()
