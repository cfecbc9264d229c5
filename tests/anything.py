"""What several tests hand in: things of any kind, sets of dealings; and what the document says, done over in the
plainest way and without the program's help."""

import itertools
import random


class Hostile:
    """Refuses to be compared, hashed, counted, tested or shown."""

    def refuse(self, *rest):
        raise RuntimeError("a thing that is only asked for its kind must not be asked more")

    __eq__ = __ne__ = __lt__ = __le__ = __gt__ = __ge__ = refuse
    __hash__ = __len__ = __bool__ = __iter__ = __contains__ = __getitem__ = refuse
    __str__ = __repr__ = __format__ = __index__ = __int__ = refuse


def things():
    """New things of any kind, none of which is a dealing, a list of dealings or of levels, or an order."""
    itself = []
    itself.append(itself)
    return [
        None, True, False, -1, 10 ** 60, -(10 ** 60), 0.0, 1.0, float("nan"), float("inf"), 1j,
        "", " ", "lax", "read", "thing", b"", b"r1", bytearray(b"r1"), (), (None,), ("read",), ("read", 1),
        [[]], [None], [True], [Hostile()], ["thing"], [1.0], itself, {}, {0: "lax"}, {"read": 1},
        {0}, frozenset([0]), range(2), object(), object, len, Hostile(), Hostile, iter([0, 0]),
    ]


def steps(text):
    """A dealing, written shortly here without the program's help."""
    words = {"r": "read", "w": "write"}
    return tuple((words[word[0]], int(word[1:])) for word in text.split())


def small_sets():
    """Small sets of dealings, all weavings of which can be listed."""
    return [
        [steps("r1")],
        [steps("r1 w1 r2")],
        [steps("r1"), steps("w1")],
        [steps("r1"), steps("r1 w1")],
        [steps("r1 w1 r2"), steps("w2")],
        [steps("r1"), steps("w1"), steps("r2")],
        [steps("r1 w1"), steps("w2"), steps("r2 w1")],
        [steps("r1"), steps("w1"), steps("r2"), steps("w2")],
        [steps("r1 r2 r3 r4 r5 r6 r7 r8"), steps("w1")],
        [steps("w1"), steps("r1 r2 r3 r4 r5 r6 r7 w8")],
    ]


def full_set():
    """A hundred dealings of eight steps each."""
    return [tuple(("read", 8 * number + step) for step in range(8)) for number in range(100)]


def no_dealings():
    """What is no list of dealings: things of any kind, and lists with one fault."""
    one = steps("r1 w1")
    return things() + [
        [], one, (one,), [one] * 101, [list(one)], [one, None], [None, one], [one, ()], [one, Hostile()],
        [one, steps("w1 r1")], [one, steps("r1 r1")], [(("read", True),)], [(("read", 10 ** 8 + 1),)], [[one]],
    ]


def lists_of(left):
    """All lists in which each number stands as often as left says, in the order of lists."""
    if not any(left):
        return [[]]
    told = []
    for number, times in enumerate(left):
        if times:
            rest = left[:number] + [times - 1] + left[number + 1:]
            told.extend([number] + row for row in lists_of(rest))
    return told


def all_weavings(dealings):
    """All weavings, in the order of lists, without the program's help."""
    return lists_of([len(dealing) + 1 for dealing in dealings])


def random_dealing(chance, boxes, most):
    """A dealing of at most so many steps on these boxes, by a seeded source of chance."""
    told = []
    for turn in range(chance.randint(1, most)):
        step = (chance.choice(("read", "write")), chance.choice(boxes))
        if step not in told and ("write", step[1]) not in told:
            told.append(step)
    return tuple(told)


def random_sets(seed, times, sizes, boxes, most):
    """So many sets of dealings, of as many dealings each as one of the sizes."""
    chance = random.Random(seed)
    for turn in range(times):
        yield [random_dealing(chance, boxes, most) for number in range(chance.choice(sizes))]


def random_weaving(chance, dealings):
    """A weaving, by a seeded source of chance."""
    row = [number for number, dealing in enumerate(dealings) for turn in range(len(dealing) + 1)]
    chance.shuffle(row)
    return row


def all_levels(many):
    """All lists of so many levels."""
    return [list(row) for row in itertools.product(("lax", "still", "whole"), repeat=many)]


def no_levels(many):
    """What is no list of so many levels: things of any kind, and lists with one fault."""
    right = ["whole"] * many
    wrong = [right + ["lax"], right[1:], tuple(right), {place: "lax" for place in range(many)}, "whole", [right]]
    for place in range(many):
        for word in ("", "Lax", "none", None, 0, True, ["lax"], b"lax", Hostile()):
            wrong.append(right[:place] + [word] + right[place + 1:])
    return things() + wrong


def writes(dealing):
    """The set of the boxes that a dealing, or some steps of one, writes."""
    return {box for word, box in dealing if word == "write"}


def reads(dealing):
    """The set of the boxes that a dealing, or some steps of one, reads."""
    return {box for word, box in dealing if word == "read"}


def clash(one, other):
    """Whether two dealings clash."""
    return bool(writes(one) & (writes(other) | reads(other)) or writes(other) & reads(one))


class PlainRun:
    """What [11] and [12] say, word by word, gone over from the beginning at each place."""

    def __init__(self, dealings, levels, weaving):
        self.dealings, self.levels, self.weaving = dealings, levels, weaving
        self.fault = None
        self.reads = []
        for place in range(len(weaving)):
            bar = self.bar(place)
            if bar is not None:
                self.fault = (place,) + bar
                break
            number, step = weaving[place], self.step(place)
            if step is not None and step[0] == "read":
                self.reads.append((number, step[1], self.seen(place)))
        self.saw = {(number, box): whose for number, box, whose in self.reads}

    def step(self, place):
        """The step that is done at a place, None for an end."""
        number = self.weaving[place]
        return (self.dealings[number] + (None,))[self.weaving[:place].count(number)]

    def begin(self, number):
        return self.weaving.index(number)

    def end(self, number):
        return len(self.weaving) - 1 - self.weaving[::-1].index(number)

    def versions(self, box, place):
        """The versions ahead of a place, of which the first is nobody's."""
        ended = [number for at, number in enumerate(self.weaving[:place]) if self.end(number) == at]
        return [-1] + [number for number in ended if box in writes(self.dealings[number])]

    def seen(self, place):
        """Whose version the read at a place sees."""
        number, box = self.weaving[place], self.step(place)[1]
        return self.versions(box, place if self.levels[number] == "lax" else self.begin(number))[-1]

    def elder(self, one, other, place):
        """Whether one read a box of which it saw a version elder than the other's, by the versions up to a place."""
        for at in range(place):
            if self.weaving[at] == one and self.step(at) is not None and self.step(at)[0] == "read":
                rows = self.versions(self.step(at)[1], place + 1)
                if other in rows and rows.index(self.seen(at)) < rows.index(other):
                    return True
        return False

    def overlap(self, one, other):
        return self.begin(one) < self.end(other) and self.begin(other) < self.end(one)

    def is_chain(self, x, y, z, place):
        """Whether three that are ended are a chain."""
        if x == y or y == z or not self.elder(x, y, place) or not self.elder(y, z, place):
            return False
        if not self.overlap(x, y) or not self.overlap(y, z) or not self.end(z) < self.end(y):
            return False
        return x == z or self.end(z) < self.end(x)

    def bar(self, place):
        """Why and by whom the one at a place is barred."""
        number, step = self.weaving[place], self.step(place)
        if step is None and self.levels[number] == "whole":
            ended = [
                other for other in range(len(self.dealings))
                if self.end(other) <= place and self.levels[other] == "whole"
            ]
            middles = [
                y for x in ended for y in ended for z in ended
                if number in (x, y, z) and self.is_chain(x, y, z, place)
            ]
            return ("chain", min(middles)) if middles else None
        if step is None or step[0] == "read":
            return None
        wrote = {self.weaving[at] for at in range(place) if self.step(at) == step}
        for other in wrote:
            if self.end(other) > place:
                return ("held", other)
        if self.levels[number] != "lax" and any(self.end(other) > self.begin(number) for other in wrote):
            return ("late", self.versions(step[1], place)[-1])
        return None

    def all_versions(self, box):
        return self.versions(box, len(self.weaving))

    def ended(self):
        return sorted(range(len(self.dealings)), key=self.end)

    def ties(self):
        """What [14] says, for each two numbers and each box."""
        told = set()
        for one, mine in enumerate(self.dealings):
            for other, theirs in enumerate(self.dealings):
                for box in {step[1] for step in mine} & {step[1] for step in theirs}:
                    rows = self.all_versions(box)
                    if one == other:
                        continue
                    if one in rows and other in rows and rows.index(one) < rows.index(other):
                        told.add((one, other, "over", box))
                    if one in rows and (other, box) in self.saw:
                        if rows.index(self.saw[other, box]) >= rows.index(one):
                            told.add((one, other, "from", box))
                    if (one, box) in self.saw and other in rows:
                        if rows.index(self.saw[one, box]) < rows.index(other):
                            told.add((one, other, "past", box))
        return sorted(told)

    def ring_sizes(self):
        """For each number in a ring, the fewest ties of one in which it stands: by all lists of numbers."""
        pairs = {tie[:2] for tie in self.ties()}
        told = {}
        for many in range(2, len(self.dealings) + 1):
            for row in itertools.permutations(range(len(self.dealings)), many):
                if row[0] not in told and all(pair in pairs for pair in zip(row, row[1:] + row[:1])):
                    told[row[0]] = many
        return told


def all_cuts(dealings):
    """All that have the form of a cut, as tuples (one, at, row)."""
    for one, dealing in enumerate(dealings):
        others = [number for number in range(len(dealings)) if number != one]
        for at in range(len(dealing)):
            for many in range(1, len(others) + 1):
                for row in itertools.permutations(others, many):
                    yield one, at, list(row)


def is_free(dealings, levels, one, at, other):
    """Whether another one is free for the read of one at a place ([22])."""
    mine, theirs = dealings[one], dealings[other]
    if writes(mine[:at + 1]) & writes(theirs):
        return False
    return levels[one] == "lax" or not writes(mine) & writes(theirs)


def does_close(dealings, levels, one, at, other):
    """Whether another one closes a cut of one at a place ([18])."""
    mine, theirs = dealings[one], dealings[other]
    if writes(mine) & reads(theirs):
        return True
    behind = mine[at + 1:]
    return levels[one] == "lax" and bool(writes(behind) & (reads(theirs) | writes(theirs)) or reads(behind) & writes(theirs))


def row_barred(dealings, levels, one, row):
    """Whether a row is "barred" ([18])."""
    if levels[one] != "whole":
        return False
    for place, former in enumerate(row):
        for latter in row[place:]:
            if levels[former] == levels[latter] == "whole" and writes(dealings[former]) & reads(dealings[one]):
                if reads(dealings[latter]) & writes(dealings[one]):
                    return True
    return False


def plain_cut_fault(dealings, levels, one, at, row):
    """What [18] says of what has the form of a cut, clause by clause."""
    word, box = dealings[one][at]
    if word != "read":
        return "read"
    if box not in writes(dealings[row[0]]):
        return "first"
    if any(writes(dealings[other]) & writes(dealings[one][:at + 1]) for other in row):
        return "held"
    if levels[one] != "lax" and any(writes(dealings[other]) & writes(dealings[one]) for other in row):
        return "late"
    if not all(clash(dealings[first], dealings[second]) for first, second in zip(row, row[1:])):
        return "chain"
    if not does_close(dealings, levels, one, at, row[-1]):
        return "close"
    return "barred" if row_barred(dealings, levels, one, row) else None


def right_cuts(dealings, levels):
    """All cuts without fault at these levels, as tuples (one, at, row)."""
    return [cut for cut in all_cuts(dealings) if plain_cut_fault(dealings, levels, *cut) is None]


def program(text):
    """A program, written shortly: the tables of its keys as figures, then steps on boxes (b) and keys (k)."""
    words = text.split()
    tables = words.pop(0) if words[0].isdigit() else ""
    kinds = {"b": "box", "k": "key"}
    names = {"r": "read", "w": "write"}
    rows = [(names[word[0]], (kinds[word[1]], int(word[2:]))) for word in words]
    return tuple(int(figure) for figure in tables), tuple(rows)


def no_programs():
    """What is no list of programs: things of any kind, and lists with one fault."""
    one = program("1 rk0 wk0")
    return things() + [
        [], one, (one,), [one] * 5, [list(one)], [one, None], [None, one], [one, ()], [one, Hostile()], [[one]], [one, [one]],
        [one, program("1 wk0 rk0")], [one, program("1 rb5")], [one, ((1,), ())], [((True,), one[1])], [((10,), one[1])],
        [one, ((), (("read", ("box", 10 ** 6)),))], [one, ((), (("read", ("box", True)),))], {0: one}, {one}, iter([one]),
        [steps("r1 w1")], [((1,), [("read", ("key", 0))])], [([1], one[1])],
    ]


def random_program(chance, tables, most, boxes):
    """A program of at most so many keys and steps, on tables and boxes from 1 and 0 on, by a seeded source of chance."""
    while True:
        keys = tuple(chance.randint(1, tables) for place in range(chance.randint(0, 3)))
        slots = [("key", place) for place in range(len(keys))] + [("box", box) for box in range(boxes)]
        told = []
        for turn in range(chance.randint(1, most) if slots else 0):
            step = (chance.choice(("read", "write")), chance.choice(slots))
            if step not in told and ("write", step[1]) not in told:
                told.append(step)
        if told and all(any(slot == ("key", place) for word, slot in told) for place in range(len(keys))):
            return keys, tuple(told)


def random_programs(seed, times, sizes, tables, most, boxes=2):
    """So many lists of programs, of as many programs each as one of the sizes."""
    chance = random.Random(seed)
    for turn in range(times):
        yield [random_program(chance, tables, most, boxes) for number in range(chance.choice(sizes))]
