"""[26] and [27]: programs, runs of them, casts; [2] of them."""

import copy
import inspect
import random
import unittest

from anything import Hostile, no_programs, program, random_programs, steps, things
from asifalone import programs as module
from asifalone.dealings import are_dealings, is_dealing
from asifalone.errors import NoCasts, NoKeys, NoProgram, NoPrograms
from asifalone.programs import are_programs, cast, is_program, run_of

READ0 = ("read", ("key", 0))
BOX5 = ("read", ("box", 5))


class IsProgram(unittest.TestCase):
    def right(self, thing):
        self.assertIs(is_program(thing), True, thing)

    def wrong(self, thing):
        self.assertIs(is_program(thing), False)

    def test_ordinary(self):
        self.right(((1,), (READ0, ("write", ("key", 0)))))
        self.right(((1, 1), (READ0, ("write", ("key", 1)), ("write", ("key", 0)), BOX5)))
        self.right(((), (BOX5,)))
        self.right(program("33 rk0 wk1 rb7"))
        self.assertEqual(program("33 rk0 wk1 rb7"), ((3, 3), (READ0, ("write", ("key", 1)), ("read", ("box", 7)))))

    def test_tables(self):
        for table in range(1, 10):
            self.right(((table,), (READ0,)))
        for table in (0, 10, -1, True, False, 1.0, "1", None, (1,), [1], 10 ** 60, Hostile()):
            self.wrong(((table,), (READ0,)))
        self.right(program("123 rk0 rk1 rk2"))
        self.right(program("999 rk0 rk1 rk2"))
        self.wrong(((1, 2, 3, 4), tuple(("read", ("key", place)) for place in range(4))))
        self.wrong(([1], (READ0,)))
        self.wrong(({1: 1}, (READ0,)))
        self.wrong((None, (BOX5,)))
        self.wrong(([], (BOX5,)))
        self.wrong((1, (READ0,)))
        self.wrong((Hostile(), (READ0,)))

    def test_each_key_in_a_step(self):
        self.wrong(((1,), (BOX5,)))
        self.wrong(program("12 rk0"))
        self.wrong(program("12 rk1 wk1"))
        self.wrong(program("121 rk0 rk2 wk0"))
        self.right(program("121 rk0 rk2 wk1"))

    def test_slots(self):
        for box in (0, 1, 5, 10 ** 6 - 1):
            self.right(((), (("write", ("box", box)),)))
        for box in (-1, 10 ** 6, 10 ** 8, 10 ** 60, True, False, 1.0, "1", None, (1,), [1], Hostile()):
            self.wrong(((), (("write", ("box", box)),)))
            self.wrong(((1,), (READ0, ("write", ("box", box)))))
        for place in (-1, 1, 2, 10 ** 60, True, False, 0.0, "0", None, (0,), [0], Hostile()):
            self.wrong(((1,), (READ0, ("write", ("key", place)))))
        self.wrong(((), (("read", ("key", 0)),)))
        for slot in (
            ("Box", 1), ("", 1), ("keys", 0), (None, 1), (0, 1), ["box", 1], ("box",), ("box", 1, 1), (), None, 1, "box1",
            (("box",), 1), ([], 1), (Hostile(), 1), Hostile(), {"box": 1}, (b"box", 1),
        ):
            self.wrong(((), (("read", slot),)))
            self.wrong(((1,), (READ0, ("read", slot))))

    def test_steps(self):
        for step in (
            ("Read", ("box", 1)), ("", ("box", 1)), ("end", ("box", 1)), (None, ("box", 1)), ["read", ("box", 1)], ("read",),
            ("read", ("box", 1), 1), (), None, "read", 1, Hostile(), (Hostile(), ("box", 1)), ([], ("box", 1)), ("read", 1),
            (b"read", ("box", 1)),
        ):
            self.wrong(((), (step,)))
            self.wrong(((), (BOX5, step)))
        self.wrong(((), ()))
        self.wrong(((), [BOX5]))
        self.wrong(((), BOX5))
        self.wrong(((), None))
        self.wrong(((), {BOX5: 1}))
        self.wrong(((), Hostile()))

    def test_how_many_steps(self):
        for many in range(1, 7):
            self.right(((), tuple(("read", ("box", box)) for box in range(many))))
        for many in (0, 7, 8, 20):
            self.wrong(((), tuple(("read", ("box", box)) for box in range(many))))

    def test_alike_and_behind(self):
        for word in ("b5", "k0"):
            self.right(program(f"1 rk0 r{'b6' if word == 'k0' else word}"))
            self.wrong(program(f"1 rk0 r{word} r{word}"))
            self.wrong(program(f"1 rk0 w{word} w{word}"))
            self.wrong(program(f"1 rk0 w{word} rb9 w{word}"))
        self.wrong(program("1 wk0 rk0"))
        self.wrong(program("1 rk0 wk0 rb1 rk0"))
        self.wrong(program("1 rk0 wb5 rb5"))
        self.wrong(program("1 rk0 wb5 wk0 rb5"))
        self.right(program("1 rk0 rb5 wk0 wb5"))
        # The box of a number and the key of a place are two slots, and so are two keys of a table.
        self.right(program("11 wk0 rb0 wk1 rb1"))
        self.right(program("11 wk0 rk1"))
        self.right(program("1 wb0 rk0"))

    def test_anything(self):
        for thing in things() + [[(1,), (READ0,)], ((1,),), ((1,), (READ0,), ()), (READ0,), (((1,), (READ0,)),), ()]:
            self.wrong(thing)


class ArePrograms(unittest.TestCase):
    def test_how_many(self):
        one = program("1 rk0 wk0")
        for many in range(1, 5):
            self.assertIs(are_programs([one] * many), True)
        for many in (0, 5, 6, 100):
            self.assertIs(are_programs([one] * many), False)

    def test_anything(self):
        for at, thing in enumerate(no_programs()):
            self.assertIs(are_programs(thing), False, at)
        self.assertIs(are_programs([program("rb1"), program("12 rk0 wk1"), program("9 wk0")]), True)


class RunOf(unittest.TestCase):
    def test_by_hand(self):
        self.assertEqual(run_of(program("1 rk0 wk0"), (0,)), steps("r1000000 w1000000"))
        self.assertEqual(run_of(program("9 rk0 rb0 wb999999"), (999999,)), steps("r9999999 r0 w999999"))
        self.assertEqual(run_of(program("21 wk1 rk0 rb7 wk0"), (7, 5)), steps("w1000005 r2000007 r7 w2000007"))
        self.assertEqual(run_of(program("rb3 wb4 wb3"), ()), steps("r3 w4 w3"))
        self.assertEqual(run_of(program("333 rk2 rk0 rk1"), (1, 0, 2)), steps("r3000002 r3000001 r3000000"))

    def test_keys_alike(self):
        self.assertEqual(run_of(program("12 rk0 wk1"), (4, 4)), steps("r1000004 w2000004"))
        self.assertEqual(run_of(program("121 rk0 wk1 wk2"), (4, 4, 5)), steps("r1000004 w2000004 w1000005"))
        for text, keys in (("11 rk0 wk1", (4, 4)), ("121 rk0 wk1 wk2", (4, 5, 4)), ("777 rk0 rk1 rk2", (0, 1, 1))):
            with self.assertRaises(NoKeys):
                run_of(program(text), keys)

    def test_no_keys(self):
        one, two, none = program("1 rk0"), program("12 rk0 wk1"), program("rb1")
        for key in (0, 1, 10 ** 6 - 1):
            self.assertEqual(run_of(one, (key,)), (("read", 10 ** 6 + key),))
        for key in (-1, 10 ** 6, 10 ** 60, True, False, 1.0, "1", None, (1,), [1], {}, Hostile()):
            for thing, keys in ((one, (key,)), (two, (key, 1)), (two, (1, key))):
                with self.assertRaises(NoKeys):
                    run_of(thing, keys)
        for thing, keys in (
            (one, ()), (one, (1, 2)), (one, [1]), (one, {1: 1}), (one, {1}), (one, 1), (one, "1"), (one, range(1)), (one, b"1"),
            (two, (1,)), (two, (1, 2, 3)), (two, [1, 2]), (two, ((1, 2),)), (none, (1,)), (none, []), (none, None), (none, {}),
            (none, ""), (none, False), (none, Hostile()),
        ):
            with self.assertRaises(NoKeys):
                run_of(thing, keys)
        for at, keys in enumerate(things()):
            with self.assertRaises(NoKeys, msg=at):
                run_of(two, keys)

    def test_no_program_comes_first(self):
        wrong = things() + [program("1 rb5"), program("1 wk0 rk0"), [(1,), (READ0,)], [program("1 rk0")], ((), ())]
        for at, thing in enumerate(wrong):
            for keys in ((), (1,), None, [1], Hostile()):
                with self.assertRaises(NoProgram, msg=at):
                    run_of(thing, keys)

    def test_each_run_is_a_dealing(self):
        chance = random.Random(51)
        for rows in random_programs(52, 150, (1, 2, 3), 3, 6):
            for thing in rows:
                self.assertTrue(is_program(thing))
                keys = tuple(chance.sample(range(10 ** 6), len(thing[0])))
                told = run_of(thing, keys)
                self.assertTrue(is_dealing(told))
                self.assertEqual([word for word, box in told], [word for word, slot in thing[1]])
                for (word, box), (same, slot) in zip(told, thing[1]):
                    right = slot[1] if slot[0] == "box" else int(f"{thing[0][slot[1]]}{keys[slot[1]]:06d}")
                    self.assertEqual(box, right)


class Casts(unittest.TestCase):
    def test_by_hand(self):
        rows = [program("1 rk0 wb5"), program("11 rk0 wk1"), program("rb5")]
        self.assertEqual(
            cast(rows, [(1, (0, 1)), (0, (7,)), (2, ()), (1, (1, 0)), (0, (7,))]),
            [steps("r1000000 w1000001"), steps("r1000007 w5"), steps("r5"), steps("r1000001 w1000000"), steps("r1000007 w5")],
        )

    def test_how_many(self):
        rows = [program("1 rk0 wk0")]
        self.assertEqual(cast(rows, [(0, (3,))]), [steps("r1000003 w1000003")])
        told = cast(rows, [(0, (key,)) for key in range(100)])
        self.assertEqual(told, [run_of(rows[0], (key,)) for key in range(100)])
        self.assertTrue(are_dealings(told))
        for many in (0, 101, 102, 200):
            with self.assertRaises(NoCasts):
                cast(rows, [(0, (key,)) for key in range(many)])

    def test_no_casts(self):
        rows = [program("1 rk0"), program("11 rk0 wk1"), program("rb5")]
        good = (0, (1,))
        wrong = [
            (3, (1,)), (-1, (1,)), (True, (1, 2)), (False, (1,)), (0.0, (1,)), ("0", (1,)), (None, (1,)), ([0], (1,)),
            (Hostile(), (1,)), (10 ** 60, (1,)), (0, ()), (0, (1, 2)), (0, [1]), (0, 1), (0, None), (0, (True,)), (0, (-1,)),
            (0, (10 ** 6,)), (0, ("1",)), (0, Hostile()), (0, (Hostile(),)), (1, (1,)), (1, (1, 1)), (1, (1, 2, 3)), (2, (1,)),
            (2, []), (0,), (0, (1,), 0), (), [0, (1,)], {0: (1,)}, None, 0, "0", Hostile(), ((0, (1,)),), [good],
        ]
        for at, thing in enumerate(wrong + things()):
            for casts in ([thing], [good, thing], [thing, good]):
                with self.assertRaises(NoCasts, msg=at):
                    cast(rows, casts)
        for at, casts in enumerate(things() + [(good,), {good}, {good: 1}, good, [], iter([good])]):
            with self.assertRaises(NoCasts, msg=at):
                cast(rows, casts)

    def test_no_programs_comes_first(self):
        for at, rows in enumerate(no_programs()):
            for casts in ([(0, (1,))], [], None, Hostile()):
                with self.assertRaises(NoPrograms, msg=at):
                    cast(rows, casts)


class Handed(unittest.TestCase):
    def test_by_name(self):
        one = program("1 rk0 wk0")
        self.assertIs(is_program(thing=one), True)
        self.assertIs(are_programs(thing=[one]), True)
        self.assertEqual(run_of(keys=(3,), program=one), steps("r1000003 w1000003"))
        self.assertEqual(cast(casts=[(0, (3,))], programs=[one]), [steps("r1000003 w1000003")])

    def test_the_interface(self):
        for name, names in (
            ("is_program", ["thing"]), ("are_programs", ["thing"]), ("run_of", ["program", "keys"]),
            ("cast", ["programs", "casts"]),
        ):
            asked = getattr(module, name)
            self.assertEqual(list(inspect.signature(asked).parameters), names)
            self.assertEqual(asked.__module__, "asifalone.programs")

    def test_told_lists_are_new_and_nothing_is_changed(self):
        rows, casts = [program("1 rk0 wk0"), program("rb5")], [(0, (3,)), (1, ())]
        before = copy.deepcopy((rows, casts))
        for turn in range(2):
            told = cast(rows, casts)
            self.assertIs(type(told), list)
            self.assertEqual(told, [steps("r1000003 w1000003"), steps("r5")])
            self.assertTrue(all(type(dealing) is tuple for dealing in told))
            told.clear()
        self.assertEqual((rows, casts), before)


if __name__ == "__main__":
    unittest.main()
