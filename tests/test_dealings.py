"""[4] to [7]: steps, dealings, their boxes and texts, levels; [2] of all of them."""

import copy
import inspect
import itertools
import unittest

from anything import Hostile, full_set, no_dealings, steps, things
from asifalone import dealings
from asifalone.dealings import are_dealings, are_levels, clashes, dealing_text, is_dealing, is_step
from asifalone.dealings import read_dealing, reads_of, writes_of
from asifalone.errors import NoDealing, NoText

BOX = 10 ** 8

STEPS = [("read", 0), ("write", 0), ("read", 1), ("write", 12), ("read", BOX), ("write", BOX), ("read", BOX - 1)]

NO_STEPS = [
    ("read", -1), ("write", -1), ("read", BOX + 1), ("write", BOX + 1), ("read", 10 ** 60), ("read", -(10 ** 60)),
    ("read", True), ("write", False), ("read", 1.0), ("read", "1"), ("read", None), ("read", [1]), ("read", (1,)),
    ["read", 1], ["write", 1], ("Read", 1), ("reads", 1), ("rea", 1), ("", 1), ("r", 1), ("w", 1), ("readwrite", 1),
    (b"read", 1), (None, 1), (True, 1), (["read"], 1), ({}, 1), (1, "read"), ("read",), ("read", 1, 1), (),
    (("read", 1),), (Hostile(), 1), ("read", Hostile()), "r1", {"read": 1}, ("read", {}), (1, 1), ("end", 1),
]

DEALINGS = [
    "r0", "w0", "r100000000", "w100000000", "r1 w1", "r3 w3 r12", "w1 r2", "r1 r2 w1 w2", "w2 w1", "r2 r1",
    "r1 r2 r3 r4 r5 r6 r7 r8", "w1 w2 w3 w4 w5 w6 w7 w8", "r1 w1 r2 w2 r3 w3 r4 w4", "r1 r2 r3 r4 w4 w3 w2 w1",
    "w8 r7 w6 r5 w4 r3 w2 r1", "r10 r1 r0 w100 w1",
]

NO_DEALINGS = [
    "r1 r1", "w1 w1", "r1 w2 r1", "w1 r2 w1", "w1 r1", "w0 r0", "w5 r2 r5", "r5 w5 r5", "w1 r2 r3 r4 r5 r6 r7 r1",
    "r1 r2 r3 r4 r5 r6 r7 r8 r9", "w1 w2 w3 w4 w5 w6 w7 w8 w9", "r100000001", "r1 w100000001",
]


def sample():
    """Many dealings of up to four steps over three boxes, right ones only."""
    told = []
    every = [(word, box) for word in ("read", "write") for box in (0, 2, 11)]
    for many in range(1, 4):
        for row in itertools.permutations(every, many):
            if not any(word == "read" and ("write", box) in row[:at] for at, (word, box) in enumerate(row)):
                told.append(row)
    return told


class Steps(unittest.TestCase):
    def test_steps(self):
        for thing in STEPS:
            self.assertIs(is_step(thing), True, thing)

    def test_no_steps(self):
        for at, thing in enumerate(NO_STEPS):
            self.assertIs(is_step(thing), False, at)

    def test_of_anything(self):
        for at, thing in enumerate(things()):
            right = isinstance(thing, tuple) and len(thing) == 2
            self.assertIs(is_step(thing), right, at)


class Dealings(unittest.TestCase):
    def test_dealings(self):
        for text in DEALINGS:
            self.assertIs(is_dealing(steps(text)), True, text)

    def test_no_dealings(self):
        for text in NO_DEALINGS:
            self.assertIs(is_dealing(steps(text)), False, text)

    def test_every_short_row_of_steps(self):
        right = sample()
        every = [(word, box) for word in ("read", "write") for box in (0, 2, 11)]
        for many in range(0, 4):
            for row in itertools.product(every, repeat=many):
                self.assertIs(is_dealing(row), row in right, row)

    def test_each_no_step_at_each_place(self):
        row = steps("r21 r22 r23")
        for thing in NO_STEPS:
            for at in range(3):
                self.assertIs(is_dealing(row[:at] + (thing,) + row[at + 1:]), False)

    def test_form(self):
        self.assertIs(is_dealing(()), False)
        self.assertIs(is_dealing(list(steps("r1 w1"))), False)
        self.assertIs(is_dealing(("read", 1)), False)
        self.assertIs(is_dealing([("read", 1)]), False)
        self.assertIs(is_dealing((("read", 1), ["write", 1])), False)
        self.assertIs(is_dealing("r1"), False)

    def test_of_anything(self):
        for at, thing in enumerate(things()):
            self.assertIs(is_dealing(thing), False, at)


class ListsOfDealings(unittest.TestCase):
    def test_lists(self):
        for many in (1, 2, 99, 100):
            self.assertIs(are_dealings([steps("r1 w1")] * many), True)
        self.assertIs(are_dealings([steps(text) for text in DEALINGS]), True)
        self.assertIs(are_dealings(full_set()), True)

    def test_no_lists(self):
        for at, thing in enumerate(no_dealings()):
            self.assertIs(are_dealings(thing), False, at)
        self.assertIs(are_dealings([]), False)
        for many in (101, 102, 1000):
            self.assertIs(are_dealings([steps("r1")] * many), False)
        self.assertIs(are_dealings(tuple([steps("r1")])), False)

    def test_a_wrong_one_at_each_place(self):
        for text in NO_DEALINGS:
            for at in range(3):
                row = [steps("r1"), steps("w2"), steps("r1")]
                row[at] = steps(text)
                self.assertIs(are_dealings(row), False, row)


class Boxes(unittest.TestCase):
    def test_reads_and_writes(self):
        self.assertEqual(reads_of(steps("r3 w3 r12")), [3, 12])
        self.assertEqual(writes_of(steps("r3 w3 r12")), [3])
        self.assertEqual(reads_of(steps("r12 r3 w4 r0 w12")), [0, 3, 12])
        self.assertEqual(writes_of(steps("r12 w100000000 w4 r0 w12")), [4, 12, BOX])
        self.assertEqual(reads_of(steps("w1")), [])
        self.assertEqual(writes_of(steps("r1")), [])

    def test_clashes(self):
        for one, other, told in (
            ("r1", "r1", []), ("r1", "w1", [1]), ("w1", "w1", [1]), ("r1 w1", "r1", [1]), ("r1 w1", "r1 w1", [1]),
            ("w1", "w2", []), ("r1 r2 r3", "w3 w1 r2", [1, 3]), ("w12 w3 w100", "r100 r3 r12", [3, 12, 100]),
            ("r5 w4 r0", "w0 r4 r5", [0, 4]),
        ):
            self.assertEqual(clashes(steps(one), steps(other)), told)
            self.assertEqual(clashes(steps(other), steps(one)), told)

    def test_all_pairs_of_small_ones(self):
        rows = sample()[::3]
        for one in rows:
            for other in rows:
                told = []
                for box in (0, 2, 11):
                    mine = {word for word, at in one if at == box}
                    theirs = {word for word, at in other if at == box}
                    if mine and theirs and "write" in mine | theirs:
                        told.append(box)
                self.assertEqual(clashes(one, other), told)

    def test_refusals(self):
        wrong = things() + [steps(text) for text in NO_DEALINGS] + [(thing,) for thing in NO_STEPS]
        right = steps("r1 w1")
        for at, thing in enumerate(wrong):
            for asked in (reads_of, writes_of, dealing_text):
                with self.assertRaises(NoDealing, msg=at):
                    asked(thing)
            for one, other in ((thing, right), (right, thing), (thing, None), (None, thing)):
                with self.assertRaises(NoDealing, msg=at):
                    clashes(one, other)


class Texts(unittest.TestCase):
    def test_texts(self):
        self.assertEqual(dealing_text((("read", 3), ("write", 3), ("read", 12))), "r3 w3 r12")
        self.assertEqual(read_dealing("r3 w3 r12"), (("read", 3), ("write", 3), ("read", 12)))
        self.assertEqual(dealing_text((("write", 0),)), "w0")
        self.assertEqual(read_dealing("r100000000"), (("read", BOX),))

    def test_there_and_back(self):
        for text in DEALINGS:
            self.assertEqual(dealing_text(read_dealing(text)), text)
            self.assertEqual(read_dealing(text), steps(text))
        for row in sample():
            self.assertEqual(read_dealing(dealing_text(row)), row)

    def test_what_is_read_is_made_of_tuples_and_whole_numbers(self):
        told = read_dealing("r3 w0")
        self.assertIs(type(told), tuple)
        self.assertEqual([type(step) for step in told], [tuple, tuple])
        self.assertEqual([type(box) for word, box in told], [int, int])

    def test_other_texts(self):
        for text in NO_DEALINGS + [
            "", " ", "  ", "\n", "r1  w1", " r1", "r1 ", " r1 w1", "r1 w1 ", "r1\n", "\nr1", "r1\nw1", "r1 \nw1",
            "r1\tw1", "r1\r", "r1,w1", "r", "w", "1", "r r1", "r1 w", "r01", "r00", "w007", "r-1", "r+1", "r-0",
            "r 1", "R1", "W1", "x1", "e1", "read1", "rr1", "r1r", "r1w1", "r1.0", "r1e3", "r0x1", "r1_0", "r1_000",
            "r1000000000", "w999999999", "r99999999999", "r\u0661", "r\u00b2", "r\uff11", "\uff521", "r1\u00a0w1",
            "r" + "1" * 5000, "w" + "9" * 100000, "r0" + "0" * 5000, "r1 w" + "1" * 4301, "1" * 5000,
            "r" + "0" * 4400, "\ud800", "r\ud800", "r1\x00", "('read', 1)", "r1 w1 r2 w2 r3 w3 r4 w4 r5",
            " ".join(f"r{box}" for box in range(5000)), "r1 None", "None",
        ]:
            with self.assertRaises(NoText, msg=text[:40]):
                read_dealing(text)

    def test_every_text_of_few_signs(self):
        right = {" ".join((one, other)) for one in ("r0", "r1", "w0", "w1") for other in ("r0", "r1", "w0", "w1")}
        right -= {"r0 r0", "r1 r1", "w0 w0", "w1 w1", "w0 r0", "w1 r1"}
        right |= {"r0", "r1", "w0", "w1", "r10", "r11", "w10", "w11"}
        right |= {word + figures for word in "rw" for figures in ("100", "101", "110", "111")}
        right |= {word + bin(figures)[2:] for word in "rw" for figures in range(8, 16)}
        for many in range(6):
            for signs in itertools.product("rw01 ", repeat=many):
                text = "".join(signs)
                if text in right:
                    self.assertEqual(dealing_text(read_dealing(text)), text)
                else:
                    with self.assertRaises(NoText, msg=text):
                        read_dealing(text)

    def test_no_texts(self):
        for at, thing in enumerate(things() + [steps("r1"), list("r1"), ["r1"], b"r1 w1", 1, ("r1",)]):
            with self.assertRaises(NoText, msg=at):
                read_dealing(thing)


class Levels(unittest.TestCase):
    def test_levels(self):
        for many in range(5):
            for row in itertools.product(("lax", "still", "whole"), repeat=many):
                for asked in range(-2, 7):
                    self.assertIs(are_levels(list(row), asked), asked == many)
        self.assertIs(are_levels(["still"] * 100, 100), True)
        self.assertIs(are_levels(["still"] * 100, 99), False)

    def test_other_words_at_each_place(self):
        for word in ["Lax", "STILL", "wholes", "la", "", "lax ", b"lax", None, True, 0, ("lax",), ["lax"], Hostile()]:
            for at in range(3):
                row = ["lax", "still", "whole"]
                row[at] = word
                self.assertIs(are_levels(row, 3), False)

    def test_no_lists(self):
        self.assertIs(are_levels(("lax", "still"), 2), False)
        self.assertIs(are_levels("lax", 3), False)
        self.assertIs(are_levels("lax", 1), False)
        self.assertIs(are_levels({"lax": 1}, 1), False)
        for at, thing in enumerate(things()):
            for many in (0, 1, 2):
                self.assertIs(are_levels(thing, many), False, at)

    def test_so_many_is_a_whole_number(self):
        self.assertIs(are_levels(["lax"], True), False)
        self.assertIs(are_levels([], False), False)
        self.assertIs(are_levels(["lax"], 1.0), False)
        for at, many in enumerate(things()):
            self.assertIs(are_levels(["lax"], many), False, at)


class Handed(unittest.TestCase):
    def test_by_name(self):
        one, other = steps("r1 w1"), steps("w1 w2")
        self.assertIs(is_step(thing=("read", 1)), True)
        self.assertIs(is_dealing(thing=one), True)
        self.assertIs(are_dealings(thing=[one]), True)
        self.assertIs(are_levels(many=1, thing=["lax"]), True)
        self.assertEqual(reads_of(dealing=one), [1])
        self.assertEqual(writes_of(dealing=other), [1, 2])
        self.assertEqual(clashes(other=other, one=one), [1])
        self.assertEqual(dealing_text(dealing=one), "r1 w1")
        self.assertEqual(read_dealing(text="w1 w2"), other)

    def test_the_interface(self):
        for name, names in (
            ("is_step", ["thing"]), ("is_dealing", ["thing"]), ("are_dealings", ["thing"]),
            ("are_levels", ["thing", "many"]), ("reads_of", ["dealing"]), ("writes_of", ["dealing"]),
            ("clashes", ["one", "other"]), ("dealing_text", ["dealing"]), ("read_dealing", ["text"]),
        ):
            asked = getattr(dealings, name)
            self.assertEqual(list(inspect.signature(asked).parameters), names)
            self.assertEqual(asked.__module__, "asifalone.dealings")

    def test_told_lists_are_new(self):
        one, other = steps("r2 r1 w1"), steps("w2 w1")
        for asked, given, told in (
            (reads_of, (one,), [1, 2]), (writes_of, (other,), [1, 2]), (clashes, (one, other), [1, 2]),
        ):
            first = asked(*given)
            self.assertIs(type(first), list)
            self.assertIsNot(asked(*given), first)
            first.append("spoilt")
            self.assertEqual(asked(*given), told)

    def test_nothing_handed_in_is_changed(self):
        for thing in (
            [steps("r2 r1 w1")] * 3, ["whole", "lax"], [steps("r1"), [], {"a": [1]}], [[("read", 1)]], {"lax": [1]},
        ):
            before = copy.deepcopy(thing)
            for asked in (is_step, is_dealing, are_dealings):
                asked(thing)
            are_levels(thing, len(thing))
            for asked in (reads_of, writes_of, dealing_text, read_dealing):
                with self.assertRaises((NoDealing, NoText)):
                    asked(thing)
            self.assertEqual(thing, before)


if __name__ == "__main__":
    unittest.main()
