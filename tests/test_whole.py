"""[2] and [3] over the whole program: refusals, what is handed in and told, names, what belongs together."""

import copy
import importlib
import inspect
import random
import unittest

from anything import program, random_programs, random_sets, steps
from asifalone import cuts, dealings, errors, least, live, programs, runs, shields, sights, weavings, wide
from asifalone.cuts import Cut, cut_fault, cut_weaving
from asifalone.least import least_levels, safe, unsafe
from asifalone.programs import cast
from asifalone.runs import Run, barred, ring_fault, same
from asifalone.sights import least_of_all, unsafe_cast
from drawn import casts_on

LEVELS = ("lax", "still", "whole")
SKEW = [steps("r1 w2"), steps("r2 w1"), steps("r5")]
LOOSE = ["still", "whole", "lax"]
WOVEN = [0, 1, 0, 1, 0, 1, 2, 2]
ROWS = [program("11 rk0 rk1 wk0"), program("1 rk0 wk0")]

# All functions of the interface, by their files, each with arguments by the names that the interface gives them.
ASKED = [
    (dealings, "is_step", {"thing": ("read", 1)}), (dealings, "is_dealing", {"thing": SKEW[0]}),
    (dealings, "are_dealings", {"thing": SKEW}), (dealings, "are_levels", {"thing": LOOSE, "many": 3}),
    (dealings, "reads_of", {"dealing": SKEW[0]}), (dealings, "writes_of", {"dealing": SKEW[0]}),
    (dealings, "clashes", {"one": SKEW[0], "other": steps("w1 w2 w3")}), (dealings, "dealing_text", {"dealing": SKEW[0]}),
    (dealings, "read_dealing", {"text": "r1 w2"}),
    (weavings, "weaving_fault", {"dealings": SKEW, "thing": [0, 1, 1, 1, 1]}),
    (weavings, "one_by_one", {"dealings": SKEW, "order": [2, 0, 1]}), (weavings, "how_many", {"dealings": SKEW}),
    (weavings, "weaving_at", {"dealings": SKEW, "number": 77}), (weavings, "number_of", {"dealings": SKEW, "weaving": WOVEN}),
    (runs, "barred", {"dealings": SKEW, "levels": ["whole"] * 3, "weaving": WOVEN}),
    (runs, "Run", {"dealings": SKEW, "levels": LOOSE, "weaving": WOVEN}),
    (runs, "ring_fault", {"run": Run(SKEW, LOOSE, WOVEN), "thing": [(0, 1, "past", 1), (1, 0, "past", 3)]}),
    (runs, "same", {"run": Run(SKEW, LOOSE, WOVEN), "order": [0, 1, 2]}),
    (cuts, "Cut", {"one": 0, "at": 0, "row": [1]}),
    (cuts, "cut_fault", {"dealings": SKEW, "levels": ["whole"] * 3, "cut": Cut(0, 0, [1])}),
    (cuts, "cut_weaving", {"dealings": SKEW, "cut": Cut(0, 0, [1])}),
    (least, "safe", {"dealings": SKEW, "levels": LOOSE}), (least, "tangle", {"dealings": SKEW, "levels": LOOSE}),
    (least, "unsafe", {"dealings": SKEW, "levels": LOOSE}), (least, "least_level", {"dealings": SKEW, "number": 2}),
    (least, "least_levels", {"dealings": SKEW}), (shields, "shield", {"dealings": SKEW, "number": 0}),
    (shields, "shield_fault", {"dealings": SKEW, "levels": LOOSE, "number": 0, "thing": [[2]]}),
    (wide, "wide_places", {"dealings": SKEW}), (wide, "fewest_wide", {"dealings": SKEW}),
    (wide, "widened", {"dealings": SKEW, "places": [(2, 0), (0, 0)]}),
    (programs, "is_program", {"thing": ROWS[0]}), (programs, "are_programs", {"thing": ROWS}),
    (programs, "run_of", {"program": ROWS[0], "keys": (4, 3)}),
    (programs, "cast", {"programs": ROWS, "casts": [(1, (5,)), (0, (5, 6))]}),
    (sights, "safe_programs", {"programs": ROWS, "levels": ["whole", "still"]}),
    (sights, "least_of", {"programs": ROWS, "number": 1}), (sights, "least_of_all", {"programs": ROWS}),
    (sights, "unsafe_cast", {"programs": ROWS, "levels": ["still", "lax"]}),
    (sights, "sights", {"programs": ROWS, "number": 1}), (sights, "program_shield", {"programs": ROWS, "number": 1}),
    (sights, "program_shield_fault", {"programs": ROWS, "levels": ["lax", "lax"], "number": 1, "thing": [[(1, (-1,))]]}),
    (live, "Live", {}),
]

METHODS = {
    runs.Run: ("seen", "ended", "versions", "ties", "ring", "order"),
    live.Live: (
        "begin", "read", "write", "end", "drop", "waiting", "ended_dealings", "ended_levels", "ended_weaving", "run", "twin",
    ),
}


def full_store():
    """A store at which twelve were begun."""
    store = live.Live()
    for number in range(12):
        store.begin()
    return store


def held_store():
    """A store at which 0 holds a box."""
    store = live.Live()
    store.begin()
    store.begin()
    store.write(0, 1)
    return store


# For each refusal some ways to it.
REFUSED = {
    "NoDealing": [lambda: dealings.reads_of(()), lambda: dealings.clashes(SKEW[0], None)],
    "NoDealings": [lambda: least.least_levels([]), lambda: live.Live().run(), lambda: wide.widened([()], 1)],
    "NoText": [lambda: dealings.read_dealing("r1  w2"), lambda: dealings.read_dealing(None)],
    "NoLevel": [lambda: live.Live().begin("Lax"), lambda: full_store().begin(None)],
    "NoLevels": [lambda: least.safe(SKEW, ["lax"]), lambda: sights.safe_programs(ROWS, LOOSE)],
    "NoOrder": [lambda: weavings.one_by_one(SKEW, [0, 1]), lambda: same(Run(SKEW, LOOSE, WOVEN), None)],
    "NoNumber": [
        lambda: least.least_level(SKEW, True), lambda: sights.sights(ROWS, 2), lambda: live.Live().end(0),
        lambda: weavings.weaving_at(SKEW, -1), lambda: Run(SKEW, LOOSE, WOVEN).ring(through=3),
    ],
    "NoWeaving": [lambda: weavings.number_of(SKEW, [0]), lambda: barred(SKEW, LOOSE, WOVEN[:-1])],
    "NoBox": [lambda: Run(SKEW, LOOSE, WOVEN).versions(-1), lambda: held_store().read(0, None)],
    "Barred": [lambda: Run(SKEW, ["whole"] * 3, WOVEN), lambda: held_store().write(1, 1)],
    "NoTie": [lambda: Run(SKEW, LOOSE, WOVEN).ties(kind="ahead")],
    "NoCut": [lambda: cuts.cut_weaving(SKEW, Cut(0, 0, []))],
    "NoPlaces": [lambda: wide.widened(SKEW, [(0, 1)])],
    "NoRoom": [
        lambda: wide.widened([steps("r1 r2 r3 r4 r5")], [(0, place) for place in range(4)]),
        lambda: wide.fewest_wide([steps("r1 r2 r3 r4 r5")]),
    ],
    "TooMany": [lambda: wide.fewest_wide([steps("r1 r2 r3")] * 3), lambda: full_store().begin()],
    "NoProgram": [lambda: programs.run_of(SKEW[0], ())],
    "NoPrograms": [lambda: programs.cast([], []), lambda: sights.least_of_all(ROWS * 3)],
    "NoKeys": [lambda: programs.run_of(ROWS[0], (4, 4))],
    "NoCasts": [lambda: programs.cast(ROWS, [])],
    "NoStep": [lambda: held_store().write(0, 1), lambda: held_store().end(1)],
}


class Refusals(unittest.TestCase):
    def test_each_is_of_its_own_class_alone(self):
        self.assertEqual(len(REFUSED), 20)
        for name, ways in REFUSED.items():
            for way in ways:
                with self.assertRaises(errors.AloneError) as caught:
                    way()
                self.assertIs(type(caught.exception), getattr(errors, name))
                self.assertIsInstance(caught.exception, ValueError)
                others = [other for other in REFUSED if isinstance(caught.exception, getattr(errors, other))]
                self.assertEqual(others, [name])

    def test_told_places(self):
        with self.assertRaises(errors.NoWeaving) as caught:
            weavings.number_of(SKEW, [0, 7])
        self.assertEqual(caught.exception.place, 1)
        with self.assertRaises(errors.Barred) as caught:
            Run(SKEW, ["whole"] * 3, WOVEN)
        self.assertEqual((caught.exception.place, caught.exception.why, caught.exception.by), (5, "chain", 1))


class Interface(unittest.TestCase):
    def test_all_is_defined_in_its_file(self):
        for module, name, given in ASKED:
            asked = getattr(module, name)
            self.assertEqual(asked.__module__, module.__name__)
            self.assertIs(getattr(importlib.import_module(module.__name__), name), asked)
            if name != "unsafe":
                self.assertEqual(list(inspect.signature(asked).parameters), list(given))
        self.assertEqual(list(inspect.signature(least.unsafe).parameters), ["dealings", "levels", "one"])
        for told, names in METHODS.items():
            for name in names:
                self.assertIn(name, vars(told))

    def test_by_place_and_by_name_in_any_order(self):
        for module, name, given in ASKED:
            if name == "Live":
                continue
            asked = getattr(module, name)
            told = asked(*given.values())
            self.assertEqual(asked(**given), told, name)
            self.assertEqual(asked(**dict(reversed(given.items()))), told, name)

    def test_what_stands_behind_a_star_is_handed_in_by_its_name(self):
        run = Run(SKEW, LOOSE, WOVEN)
        self.assertEqual(run.ties(kind="past"), [(0, 1, "past", 1), (1, 0, "past", 2)])
        self.assertEqual(len(run.ring(through=1)), 2)
        self.assertEqual(unsafe(SKEW, LOOSE, one=1), Cut(1, 0, [0]))
        for way in (lambda: run.ties("past"), lambda: run.ring(1), lambda: unsafe(SKEW, LOOSE, 1)):
            with self.assertRaises(TypeError):
                way()

    def test_told_lists_are_new_and_nothing_handed_in_is_changed(self):
        for module, name, given in ASKED:
            asked = getattr(module, name)
            before = copy.deepcopy(given)
            first, second = asked(**given), asked(**given)
            if name != "Live":
                self.assertEqual(first, second, name)
            for one, other in ((first, second), (first[0], second[0])) if isinstance(first, tuple) else ((first, second),):
                if isinstance(one, list):
                    self.assertIsNot(one, other, name)
                    if one and isinstance(one[0], list):
                        one[0].append("spoilt")
                    one.append("spoilt")
            if name != "Live":
                self.assertEqual(asked(**given), second, name)
            for word in given:
                if word != "run":
                    self.assertEqual(given[word], before[word], name)


class Together(unittest.TestCase):
    def test_what_has_no_ring_is_the_same_by_its_order(self):
        chance = random.Random(111)
        found = set()
        for rows in random_sets(112, 300, (2, 3, 4), (1, 2, 3, 4), 3):
            levels = [chance.choice(LEVELS) for dealing in rows]
            woven = weavings.weaving_at(rows, chance.randrange(weavings.how_many(rows)))
            if barred(rows, levels, woven) is None:
                run = Run(rows, levels, woven)
                found.add(run.ring() is None)
                if run.ring() is None:
                    self.assertTrue(same(run, run.order()))
                else:
                    self.assertIsNone(ring_fault(run, run.ring()))
                    self.assertFalse(safe(rows, levels))
        self.assertEqual(found, {True, False})

    def test_cuts_of_casts_and_of_dealings(self):
        chance = random.Random(113)
        found = 0
        for rows in random_programs(114, 120, (1, 2, 3), 2, 4):
            least_ones = least_of_all(rows)
            levels = [chance.choice(LEVELS) for row in rows]
            told = unsafe_cast(rows, levels)
            casts = chance.choices(casts_on(rows, range(4)), k=12)
            given, own = cast(rows, casts), [levels[number] for number, keys in casts]
            cut = unsafe(given, own)
            if told is None:
                self.assertIsNone(cut)
            elif cut is not None:
                self.assertLessEqual(len(told[0]), len(cut.row) + 1)
                self.assertIsNone(cut_fault(given, own, cut))
                self.assertIsNotNone(Run(given, own, cut_weaving(given, cut)).ring(through=cut.one))
                found += 1
            # What a program needs is enough for each of its runs, whatever the others are.
            for level, (number, keys) in zip(least_levels(given), casts):
                self.assertLessEqual(LEVELS.index(level), LEVELS.index(least_ones[number]))
        self.assertGreater(found, 10)

    def test_programs_without_keys_are_dealings(self):
        # A dealing that is run but once may need less than the program that is run often.
        chance = random.Random(115)
        for rows in random_sets(116, 150, (1, 2, 3, 4), (1, 2, 3, 4), 4):
            plain = [((), tuple((word, ("box", box)) for word, box in dealing)) for dealing in rows]
            often = least_levels(rows * 8)
            self.assertEqual(least_of_all(plain), often[:len(rows)])
            order = chance.sample(range(len(rows)), len(rows))
            self.assertEqual(cast(plain, [(number, ()) for number in order]), [rows[number] for number in order])


if __name__ == "__main__":
    unittest.main()
