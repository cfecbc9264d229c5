"""[32] and [33]: the live store; [2] and [3] of it."""

import copy
import inspect
import random
import unittest

from anything import Hostile, PlainRun, all_levels, all_weavings, random_dealing, random_sets, random_weaving, small_sets
from anything import steps, things
from asifalone import live
from asifalone.errors import AloneError, Barred, NoBox, NoDealings, NoLevel, NoNumber, NoStep, TooMany
from asifalone.least import least_levels
from asifalone.live import Live
from asifalone.runs import Run, barred, same

LEVELS = ("lax", "still", "whole")
NO_BOXES = [-1, 10 ** 8 + 1, 10 ** 60, True, False, 1.0, "1", None, (1,), [1], {}, Hostile()]


def texts(*rows):
    """The dealings of these texts."""
    return [steps(row) for row in rows]


def told_by(store):
    """All that a store tells of itself."""
    return store.waiting(), store.ended_dealings(), store.ended_levels(), store.ended_weaving()


def do(store, number, step):
    """Does a step, or the end as None, and gives what is told."""
    if step is None:
        return store.end(number)
    return store.read(number, step[1]) if step[0] == "read" else store.write(number, step[1])


def begun(levels):
    """A store with one begun at each of these levels."""
    store = Live()
    for number, level in enumerate(levels):
        assert store.begin(level) == number
    return store


def weave(store, dealings, weaving, names=None):
    """Does a weaving deed by deed: the reads seen, and what barred it, as (place, why, by), or None."""
    names = names or list(range(len(dealings)))
    left = [list(dealing) + [None] for dealing in dealings]
    seen = []
    for number in weaving:
        step = left[number].pop(0)
        try:
            told = do(store, names[number], step)
        except Barred as refusal:
            return seen, (refusal.place, refusal.why, refusal.by)
        if step is not None and step[0] == "read":
            seen.append((number, step[1], told))
        else:
            assert told is None
    return seen, None


class PlainLive:
    """What [32] and [33] say, gone over from the beginning at each deed."""

    def __init__(self):
        self.levels, self.steps, self.state, self.deeds = [], [], [], []
        self.count = 0

    def begin(self, level):
        if len(self.levels) == 12:
            return TooMany
        self.levels.append(level)
        self.steps.append(())
        self.state.append("waits")
        return len(self.levels) - 1

    def plain(self, number, step):
        """The plain run of all deeds done by those not dropped, of this one, and of an end of each that isn't ended."""
        deeds = [other for other in self.deeds if self.state[other] != "dropped"] + [number]
        names = sorted(set(deeds))
        rows = [self.steps[name] + ((step,) if name == number and step is not None else ()) for name in names]
        left = [name for name in names if deeds.count(name) == len(rows[names.index(name)])]
        weaving = [names.index(name) for name in deeds + left]
        return names, len(deeds) - 1, PlainRun(rows, [self.levels[name] for name in names], weaving)

    def do(self, number, step):
        """What is told, or the refusal, as its class or as (Barred, place, why, by)."""
        if number not in range(len(self.levels)) or self.state[number] != "waits":
            return NoNumber
        if step == "drop":
            self.state[number] = "dropped"
            self.deeds = [other for other in self.deeds if other != number]
            self.count += 1
            return None
        if step is not None:
            mine = self.steps[number]
            if step in mine or ("write", step[1]) in mine or len(mine) == 8:
                return NoStep
        elif not self.steps[number]:
            return NoStep
        names, place, run = self.plain(number, step)
        if run.fault is not None and run.fault[0] <= place:
            assert run.fault[0] == place
            return Barred, self.count, run.fault[1], names[run.fault[2]]
        self.count += 1
        self.deeds.append(number)
        if step is None:
            self.state[number] = "ended"
            return None
        self.steps[number] += (step,)
        if step[0] == "write":
            return None
        whose = run.seen(place)
        return whose if whose == -1 else names[whose]

    def told(self):
        """What told_by tells."""
        ended = [number for number, word in enumerate(self.state) if word == "ended"]
        return (
            [number for number, word in enumerate(self.state) if word == "waits"],
            [self.steps[number] for number in ended], [self.levels[number] for number in ended],
            [ended.index(number) for number in self.deeds if number in ended],
        )


class Begin(unittest.TestCase):
    def test_numbers_from_0_on(self):
        store = Live()
        for number in range(12):
            self.assertEqual(store.begin(LEVELS[number % 3]), number)
        self.assertEqual(store.waiting(), list(range(12)))

    def test_the_thirteenth(self):
        store = begun(["lax"] * 12)
        for turn in range(2):
            with self.assertRaises(TooMany):
                store.begin()
            with self.assertRaises(TooMany):
                store.begin("whole")
        # Those that are ended or dropped were told, too.
        store.write(0, 1)
        store.end(0)
        store.drop(1)
        with self.assertRaises(TooMany):
            store.begin("lax")
        self.assertEqual(store.waiting(), list(range(2, 12)))

    def test_no_level_comes_first(self):
        wrong = [thing for thing in things() if not isinstance(thing, str) or thing != "lax"]
        wrong += ["Lax", "", "laxer", "still ", b"lax", ["lax"], ("lax",), 0, 1, True, None, Hostile()]
        store, full = Live(), begun(["lax"] * 12)
        for at, level in enumerate(wrong):
            with self.assertRaises(NoLevel, msg=at):
                store.begin(level)
            with self.assertRaises(NoLevel, msg=at):
                full.begin(level)
        self.assertEqual(store.begin("whole"), 0)

    def test_without_a_level_it_is_lax(self):
        store = Live()
        store.begin()
        store.begin("still")
        store.begin()
        store.read(0, 5)
        store.read(1, 5)
        store.write(2, 1)
        store.end(2)
        self.assertEqual(store.read(0, 1), 2)
        self.assertEqual(store.read(1, 1), -1)
        store.end(0)
        self.assertEqual(store.ended_levels(), ["lax", "lax"])

    def test_it_begins_with_its_first_step(self):
        store = begun(["still", "whole", "lax"])
        store.write(2, 1)
        store.end(2)
        self.assertEqual(store.read(0, 1), 2)
        self.assertEqual(store.read(1, 1), 2)


class Deeds(unittest.TestCase):
    def refused(self, error, asked, *given):
        with self.assertRaises(AloneError) as caught:
            asked(*given)
        self.assertIs(type(caught.exception), error)
        return caught.exception

    def barred(self, told, asked, *given):
        refusal = self.refused(Barred, asked, *given)
        self.assertEqual((refusal.place, refusal.why, refusal.by), told)

    def test_what_is_told(self):
        store = begun(["lax", "still", "whole"])
        self.assertEqual(store.read(0, 7), -1)
        self.assertIsNone(store.write(1, 7))
        self.assertIsNone(store.end(1))
        self.assertEqual(store.read(2, 7), 1)
        self.assertIsNone(store.drop(0))
        self.assertIsNone(store.end(2))
        self.assertEqual(told_by(store), ([], texts("w7", "r7"), ["still", "whole"], [0, 0, 1, 1]))

    def test_one_does_not_see_its_own_write(self):
        store = begun(["lax"])
        store.write(0, 1)
        self.refused(NoStep, store.read, 0, 1)
        self.assertEqual(store.read(0, 2), -1)

    def test_no_number(self):
        store = begun(["lax"] * 4)
        store.write(0, 1)
        store.end(0)
        store.write(1, 1)
        store.drop(1)
        before = told_by(store)
        wrong = things() + [0, 1, -1, 4, 12, True, False, 2.0, "2", None, [2], (2,), {2}, {}, Hostile(), 10 ** 60]
        for at, number in enumerate(wrong):
            # NoNumber comes ahead of NoBox and NoStep.
            for box in (1, -1, None, Hostile()):
                self.refused(NoNumber, store.read, number, box)
                self.refused(NoNumber, store.write, number, box)
            self.refused(NoNumber, store.end, number)
            self.refused(NoNumber, store.drop, number)
        self.assertEqual(told_by(store), before)
        self.refused(NoNumber, Live().read, 0, 1)
        self.refused(NoNumber, Live().drop, 0)

    def test_no_box(self):
        store = begun(["lax"])
        store.write(0, 0)
        store.write(0, 10 ** 8)
        for number in range(6):
            store.write(0, 5 + number)
        # Ahead of NoStep: a ninth step is due, too.
        for box in NO_BOXES + things():
            self.refused(NoBox, store.read, 0, box)
            self.refused(NoBox, store.write, 0, box)
        self.assertEqual(store.waiting(), [0])

    def test_no_step(self):
        store = begun(["lax", "lax", "still"])
        store.read(0, 1)
        self.refused(NoStep, store.read, 0, 1)
        store.write(0, 1)
        self.refused(NoStep, store.write, 0, 1)
        self.refused(NoStep, store.read, 0, 1)
        self.refused(NoStep, store.end, 1)
        self.refused(NoStep, store.end, 2)
        for box in range(2, 8):
            store.read(0, box)
        for box in (8, 2, 1):
            self.refused(NoStep, store.read, 0, box)
            self.refused(NoStep, store.write, 0, box)
        store.end(0)
        self.assertEqual(store.ended_dealings(), [steps("r1 w1 r2 r3 r4 r5 r6 r7")])
        self.assertEqual(store.waiting(), [1, 2])

    def test_no_step_ahead_of_barred(self):
        store = begun(["still", "lax", "lax"])
        store.read(0, 5)
        store.write(1, 1)
        # Held by 1, but 2 has eight steps.
        for box in range(10, 18):
            store.read(2, box)
        self.refused(NoStep, store.write, 2, 1)
        self.barred((10, "held", 1), store.write, 0, 1)
        store.end(1)
        self.refused(NoStep, store.write, 2, 1)
        self.barred((11, "late", 1), store.write, 0, 1)

    def test_held(self):
        for level in LEVELS:
            store = begun([level, "lax", level])
            store.write(1, 3)
            for turn in range(2):
                self.barred((1, "held", 1), store.write, 0, 3)
            # Reads are never barred.
            self.assertEqual(store.read(0, 3), -1)
            self.barred((2, "held", 1), store.write, 0, 3)
            self.barred((2, "held", 1), store.write, 2, 3)
            self.assertEqual(told_by(store), ([0, 1, 2], [], [], []))
            store.drop(1)
            self.assertIsNone(store.write(0, 3))
            self.barred((4, "held", 0), store.write, 2, 3)
            store.end(0)
            # A step that was barred was none: 2 begins only now, and is not late.
            self.assertIsNone(store.write(2, 3))
            store.end(2)
            self.assertEqual(store.run().versions(3), [-1, 0, 1])

    def test_barred_and_let_by_behind_the_end(self):
        store = begun(["lax", "lax"])
        store.read(1, 9)
        store.write(0, 3)
        self.barred((2, "held", 0), store.write, 1, 3)
        store.end(0)
        self.assertIsNone(store.write(1, 3))
        self.assertIsNone(store.end(1))
        self.assertEqual(store.run().versions(3), [-1, 0, 1])

    def test_late(self):
        for level in ("still", "whole"):
            store = begun([level, "lax", "lax", level])
            store.read(0, 9)
            store.write(1, 3)
            self.barred((2, "held", 1), store.write, 0, 3)
            store.end(1)
            self.barred((3, "late", 1), store.write, 0, 3)
            store.write(2, 3)
            self.barred((4, "held", 2), store.write, 0, 3)
            store.end(2)
            for turn in range(2):
                self.barred((5, "late", 2), store.write, 0, 3)
            self.assertIsNone(store.write(3, 3))
            self.assertIsNone(store.write(0, 4))
            self.assertIsNone(store.end(0))

    def test_not_late_where_the_other_one_was_dropped(self):
        store = begun(["still", "lax"])
        store.read(0, 9)
        store.write(1, 3)
        store.drop(1)
        self.assertIsNone(store.write(0, 3))

    def test_chain(self):
        store = begun(["whole", "whole", "whole"])
        store.read(0, 1)
        store.read(1, 2)
        store.write(0, 2)
        store.write(1, 1)
        store.end(0)
        for turn in range(2):
            self.barred((5, "chain", 1), store.end, 1)
        self.assertEqual(told_by(store), ([1, 2], texts("r1 w2"), ["whole"], [0, 0, 0]))
        store.drop(1)
        self.assertEqual(store.read(2, 1), -1)
        self.assertEqual(store.read(2, 2), 0)
        store.end(2)
        self.assertEqual(store.run().ended(), [0, 1])
        self.assertIsNone(store.run().ring())

    def test_by_the_stores_numbers(self):
        # The numbers ahead are dropped, or wait: those that bar are told as the store counts them.
        store = begun(["whole"] * 7)
        store.read(0, 50)
        store.drop(0)
        store.drop(1)
        store.read(3, 1)
        store.read(5, 2)
        store.write(3, 2)
        store.write(5, 1)
        self.barred((7, "held", 5), store.write, 6, 1)
        store.end(3)
        self.barred((8, "chain", 5), store.end, 5)
        store.drop(5)
        store.read(6, 2)
        store.end(6)
        self.assertEqual(store.waiting(), [2, 4])
        self.assertEqual(store.ended_weaving(), [0, 0, 0, 1, 1])

    def test_the_least_middle_by_the_stores_numbers(self):
        store = begun(["lax", "whole", "lax", "whole", "whole"])
        store.drop(0)
        dealings = texts("r1", "w1 r2", "w2")
        store.read(4, 1)
        store.write(3, 1)
        store.read(3, 2)
        store.write(1, 2)
        store.end(1)
        store.end(3)
        self.barred((7, "chain", 3), store.end, 4)
        self.assertEqual(barred(dealings, ["whole"] * 3, [0, 1, 1, 2, 2, 1, 0]), (6, "chain", 1))

    def test_place_counts_drops_but_no_begins_and_no_refusals(self):
        store = begun(["lax", "lax"])
        store.write(0, 1)
        self.barred((1, "held", 0), store.write, 1, 1)
        number = store.begin()
        store.drop(number)
        self.barred((2, "held", 0), store.write, 1, 1)
        self.refused(NoBox, store.read, 1, None)
        self.refused(NoStep, store.end, 1)
        number = store.begin()
        store.read(number, 1)
        self.barred((3, "held", 0), store.write, 1, 1)
        store.drop(number)
        self.barred((4, "held", 0), store.write, 1, 1)

    def test_what_a_dropped_one_read_bars_nobody(self):
        # 0 would be the first of a chain; it is given up.
        store = begun(["whole"] * 3)
        store.read(0, 1)
        store.write(1, 1)
        store.read(1, 2)
        store.write(2, 2)
        store.end(2)
        store.drop(0)
        self.assertIsNone(store.end(1))

    def test_against_the_words(self):
        chance = random.Random(101)
        found = set()
        for turn in range(250):
            store, plain = Live(), PlainLive()
            whole = chance.random() < 0.4
            for deed in range(60):
                if chance.random() < 0.18 or not plain.levels:
                    level = "whole" if whole else chance.choice(LEVELS)
                    self.check(lambda: store.begin(level), plain.begin(level), found)
                number = chance.randrange(-1, len(plain.levels) + 1) if chance.random() < 0.08 else None
                if number is None:
                    waits = plain.told()[0] or [0]
                    number = chance.choice(waits)
                step = chance.choice(
                    [("read", chance.randrange(4))] * 4 + [("write", chance.randrange(4))] * 3 + [None] * 2
                )
                if chance.random() < 0.06:
                    self.check(lambda: store.drop(number), plain.do(number, "drop"), found)
                else:
                    self.check(lambda: do(store, number, step), plain.do(number, step), found)
                self.assertEqual(told_by(store), plain.told())
            if store.ended_dealings():
                run = store.run()
                self.assertEqual((run.dealings, run.levels, run.weaving), told_by(store)[1:])
        self.assertLessEqual({"held", "late", "chain", NoNumber, NoStep, TooMany, None, -1, 0, 1}, found)

    def check(self, asked, right, found):
        """That a deed is told or refused as is right."""
        if isinstance(right, tuple):
            self.barred(right[1:], asked)
            found.add(right[2])
        elif isinstance(right, type):
            self.refused(right, asked)
            found.add(right)
        else:
            self.assertEqual(asked(), right)
            found.add(right)


class Ended(unittest.TestCase):
    def test_none_is_ended(self):
        store = Live()
        self.assertEqual(told_by(store), ([], [], [], []))
        with self.assertRaises(NoDealings):
            store.run()
        store.begin()
        store.begin()
        store.read(0, 1)
        store.write(1, 1)
        store.drop(1)
        self.assertEqual(told_by(store), ([0], [], [], []))
        with self.assertRaises(NoDealings):
            store.run()

    def test_behind_each_deed(self):
        store = begun(["whole", "still", "lax", "whole"])
        deeds = [
            (lambda: store.read(2, 1), ([0, 1, 2, 3], [], [], [])),
            (lambda: store.write(0, 1), ([0, 1, 2, 3], [], [], [])),
            (lambda: store.end(2), ([0, 1, 3], texts("r1"), ["lax"], [0, 0])),
            (lambda: store.read(3, 1), ([0, 1, 3], texts("r1"), ["lax"], [0, 0])),
            (lambda: store.end(0), ([1, 3], texts("w1", "r1"), ["whole", "lax"], [1, 0, 1, 0])),
            (lambda: store.drop(1), ([3], texts("w1", "r1"), ["whole", "lax"], [1, 0, 1, 0])),
            (lambda: store.begin(), ([3, 4], texts("w1", "r1"), ["whole", "lax"], [1, 0, 1, 0])),
            (lambda: store.end(3), ([4], texts("w1", "r1", "r1"), ["whole", "lax", "whole"], [1, 0, 1, 2, 0, 2])),
        ]
        for deed, told in deeds:
            deed()
            self.assertEqual(told_by(store), told)
            if told[1]:
                self.assertTrue(store.run() == Run(*told[1:]))

    def test_a_told_run_stays_as_it_is(self):
        store = begun(["lax", "lax"])
        store.write(0, 1)
        store.end(0)
        run = store.run()
        store.write(1, 1)
        store.end(1)
        self.assertEqual(run.versions(1), [-1, 0])
        self.assertEqual((run.dealings, run.levels, run.weaving), (texts("w1"), ["lax"], [0, 0]))
        self.assertFalse(store.run() == run)
        self.assertTrue(store.run() == store.run())
        self.assertEqual(store.run().versions(1), [-1, 0, 1])

    def test_told_lists_are_new(self):
        store = begun(["lax", "lax"])
        store.write(0, 1)
        store.end(0)
        before = copy.deepcopy(told_by(store))
        for told in told_by(store) + (store.run().dealings, store.run().seen(), store.run().weaving):
            self.assertIs(type(told), list)
            told.append("spoilt")
        self.assertEqual(told_by(store), before)
        self.assertIs(type(store.ended_dealings()[0]), tuple)
        self.assertTrue(store.run() == Run(*before[1:]))


class Twins(unittest.TestCase):
    def test_of_a_new_one(self):
        one = Live()
        other = one.twin()
        self.assertIs(type(other), Live)
        self.assertIsNot(other, one)
        self.assertEqual(other.begin(), 0)
        self.assertEqual(told_by(one), ([], [], [], []))
        self.assertEqual(one.begin("whole"), 0)

    def test_what_is_done_at_one_shows_at_none_of_the_others(self):
        one = begun(["lax", "still", "whole"])
        one.read(1, 1)
        one.write(0, 1)
        other = one.twin()
        third = other.twin()
        self.assertEqual(told_by(one), told_by(other))
        one.end(0)
        self.assertEqual(told_by(other), ([0, 1, 2], [], [], []))
        with self.assertRaises(Barred) as caught:
            other.write(1, 1)
        self.assertEqual((caught.exception.place, caught.exception.why, caught.exception.by), (2, "held", 0))
        other.drop(0)
        self.assertIsNone(other.write(1, 1))
        with self.assertRaises(Barred) as caught:
            one.write(1, 1)
        self.assertEqual((caught.exception.place, caught.exception.why, caught.exception.by), (3, "late", 0))
        self.assertEqual(third.begin(), 3)
        self.assertEqual((one.waiting(), other.waiting(), third.waiting()), ([1, 2], [1, 2], [0, 1, 2, 3]))

    def test_twins_do_alike_by_chance(self):
        chance = random.Random(102)
        for turn in range(60):
            plain = PlainLive()
            store = Live()
            for deed in range(40):
                if chance.random() < 0.25 or not plain.levels:
                    level = chance.choice(LEVELS)
                    if plain.begin(level) is not TooMany:
                        store.begin(level)
                number = chance.randrange(len(plain.levels))
                step = chance.choice([("read", chance.randrange(3)), ("write", chance.randrange(3)), None, "drop"])
                if step == "drop" and chance.random() < 0.7:
                    continue
                twin = store.twin()
                right = plain.do(number, step)
                for asked in (store, twin):
                    try:
                        told = asked.drop(number) if step == "drop" else do(asked, number, step)
                    except Barred as refusal:
                        told = (Barred, refusal.place, refusal.why, refusal.by)
                    except AloneError as refusal:
                        told = type(refusal)
                    self.assertEqual(told, right)
                    self.assertEqual(told_by(asked), plain.told())
                store = chance.choice([store, twin])


class Promise(unittest.TestCase):
    def check(self, dealings, levels, weaving):
        """That a store does a weaving just as barred and Run tell."""
        store = begun(levels)
        seen, fault = weave(store, dealings, weaving)
        self.assertEqual(fault, barred(dealings, levels, weaving))
        if fault is None:
            run = Run(dealings, levels, weaving)
            self.assertEqual(seen, run.seen())
            self.assertEqual(told_by(store), ([], dealings, levels, weaving))
            self.assertTrue(store.run() == run)
            self.assertEqual(store.run().ties(), run.ties())
        else:
            self.assertEqual(seen, PlainRun(dealings, levels, weaving).reads)
        return fault and fault[1]

    def test_all_weavings_deed_by_deed(self):
        found = set()
        for dealings in small_sets()[:7] + [texts("r1 w2", "r2 w1"), texts("r1 w1", "r1 w1")]:
            if len(dealings) < 3:
                for levels in all_levels(len(dealings)):
                    for weaving in all_weavings(dealings):
                        found.add(self.check(dealings, levels, weaving))
            else:
                for levels in all_levels(len(dealings))[::4]:
                    for weaving in all_weavings(dealings)[::13]:
                        found.add(self.check(dealings, levels, weaving))
        self.assertEqual(found, {None, "held", "late", "chain"})

    def test_weavings_by_chance(self):
        chance = random.Random(103)
        found = set()
        for dealings in random_sets(104, 600, (2, 3, 5, 8), (1, 2, 3, 4, 5, 6), 4):
            levels = [chance.choice(("lax", "still", "whole", "whole")) for dealing in dealings]
            found.add(self.check(dealings, levels, random_weaving(chance, dealings)))
        self.assertEqual(found, {None, "held", "late", "chain"})

    def test_with_others_that_are_dropped_or_never_end(self):
        chance = random.Random(105)
        full = 0
        for dealings in random_sets(106, 400, (2, 3, 4), (1, 2, 3, 4), 3):
            levels = [chance.choice(LEVELS) for dealing in dealings]
            weaving = random_weaving(chance, dealings)
            right = barred(dealings, levels, weaving)
            store, names, more = Live(), [], []
            while len(names) < len(dealings):
                if chance.random() < 0.5 and len(more) < 4:
                    more.append(store.begin(chance.choice(LEVELS)))
                else:
                    names.append(store.begin(levels[len(names)]))
            left = [list(dealing) + [None] for dealing in dealings]
            seen, fault, deeds = [], None, 0
            for number in weaving:
                # Those others read what they like, and write boxes of their own.
                for other in list(more):
                    if chance.random() < 0.15:
                        store.drop(other)
                        more.remove(other)
                        deeds += 1
                    elif chance.random() < 0.3:
                        try:
                            do(store, other, chance.choice([("read", chance.randrange(6)), ("write", 50 + other)]))
                            deeds += 1
                        except NoStep:
                            pass
                step = left[number].pop(0)
                try:
                    told = do(store, names[number], step)
                except Barred as refusal:
                    fault = (refusal.place, refusal.why, names.index(refusal.by))
                    break
                if step is not None and step[0] == "read":
                    seen.append((number, step[1], told if told == -1 else names.index(told)))
            if fault is None:
                self.assertIsNone(right)
                run = Run(dealings, levels, weaving)
                self.assertEqual(seen, run.seen())
                self.assertTrue(store.run() == run)
                self.assertEqual(told_by(store), (more, dealings, levels, weaving))
                full += 1
            else:
                self.assertEqual((fault[0] - deeds,) + fault[1:], right)
        self.assertGreater(full, 50)

    def attempt(self, chance, dealings, levels):
        """Does dealings at a store as they come, what is barred tried again or given up; the store behind it."""
        store = begun(levels)
        left = {number: list(dealing) + [None] for number, dealing in enumerate(dealings)}
        deeds = 0
        while left and deeds < 60:
            number = chance.choice(list(left))
            try:
                do(store, number, left[number][0])
                left[number].pop(0)
            except Barred:
                if chance.random() < 0.4:
                    store.drop(number)
                    del left[number]
            if number in left and (not left[number] or chance.random() < 0.01):
                if left[number]:
                    store.drop(number)
                del left[number]
            deeds += 1
        return store

    def test_at_least_levels_or_stricter_ones_no_ring(self):
        chance = random.Random(107)
        dropped = rings = 0
        sets = [dealings for dealings in random_sets(108, 400, (3, 5, 8, 12), (1, 2, 3, 4, 5, 6), 4)]
        sets += [[random_dealing(chance, (1, 2, 3), 4) for number in range(6)] for turn in range(100)]
        for dealings in sets:
            least_ones = least_levels(dealings)
            levels = [chance.choice(LEVELS[LEVELS.index(level):]) for level in least_ones]
            store = self.attempt(chance, dealings, levels)
            if store.ended_dealings():
                run = store.run()
                self.assertIsNone(run.ring())
                self.assertTrue(same(run, run.order()))
                dropped += len(store.ended_dealings()) < len(dealings)
            store = self.attempt(chance, dealings, ["lax"] * len(dealings))
            if store.ended_dealings():
                rings += store.run().ring() is not None
        self.assertGreater(dropped, 30)
        # All lax, there are tangles: so there was something to keep from.
        self.assertGreater(rings, 20)


class Handed(unittest.TestCase):
    def test_by_name(self):
        store = Live()
        self.assertEqual(store.begin(level="still"), 0)
        self.assertEqual(store.begin(), 1)
        self.assertEqual(store.read(box=1, number=0), -1)
        self.assertIsNone(store.write(box=1, number=0))
        self.assertIsNone(store.end(number=0))
        self.assertIsNone(store.drop(number=1))

    def test_the_interface(self):
        self.assertEqual(Live.__module__, "asifalone.live")
        self.assertIs(live.Live, Live)
        for name, names in (
            ("begin", ["level"]), ("read", ["number", "box"]), ("write", ["number", "box"]), ("end", ["number"]),
            ("drop", ["number"]), ("waiting", []), ("ended_dealings", []), ("ended_levels", []), ("ended_weaving", []),
            ("run", []), ("twin", []),
        ):
            self.assertIn(name, vars(Live))
            self.assertEqual(list(inspect.signature(vars(Live)[name]).parameters)[1:], names)
        self.assertEqual(list(inspect.signature(Live).parameters), [])
        self.assertEqual(inspect.signature(Live.begin).parameters["level"].default, "lax")

    def test_stores_have_nothing_in_common(self):
        one, other = Live(), Live()
        one.begin()
        one.write(0, 1)
        self.assertEqual(other.waiting(), [])
        other.begin("still")
        self.assertIsNone(other.write(0, 1))


if __name__ == "__main__":
    unittest.main()
