"""Things of any kind, and sets of dealings, that several tests hand in."""


class Hostile:
    """Refuses to be compared, hashed, counted, tested or shown."""

    def refuse(self, *rest):
        raise RuntimeError("a thing that is only asked for its kind must not be asked more")

    __eq__ = __ne__ = __lt__ = __le__ = __gt__ = __ge__ = refuse
    __hash__ = __len__ = __bool__ = __iter__ = __contains__ = __getitem__ = refuse
    __str__ = __repr__ = __format__ = __index__ = __int__ = refuse


def things():
    """New things of any kind, none of which is a dealing, a list of dealings or of levels, or an order."""
    itself = []
    itself.append(itself)
    return [
        None, True, False, -1, 10 ** 60, -(10 ** 60), 0.0, 1.0, float("nan"), float("inf"), 1j,
        "", " ", "lax", "read", "thing", b"", b"r1", bytearray(b"r1"), (), (None,), ("read",), ("read", 1),
        [[]], [None], [True], [Hostile()], ["thing"], [1.0], itself, {}, {0: "lax"}, {"read": 1},
        {0}, frozenset([0]), range(2), object(), object, len, Hostile(), Hostile, iter([0, 0]),
    ]


def steps(text):
    """A dealing, written shortly here without the program's help."""
    words = {"r": "read", "w": "write"}
    return tuple((words[word[0]], int(word[1:])) for word in text.split())


def small_sets():
    """Small sets of dealings, all weavings of which can be listed."""
    return [
        [steps("r1")],
        [steps("r1 w1 r2")],
        [steps("r1"), steps("w1")],
        [steps("r1"), steps("r1 w1")],
        [steps("r1 w1 r2"), steps("w2")],
        [steps("r1"), steps("w1"), steps("r2")],
        [steps("r1 w1"), steps("w2"), steps("r2 w1")],
        [steps("r1"), steps("w1"), steps("r2"), steps("w2")],
        [steps("r1 r2 r3 r4 r5 r6 r7 r8"), steps("w1")],
        [steps("w1"), steps("r1 r2 r3 r4 r5 r6 r7 w8")],
    ]


def full_set():
    """A hundred dealings of eight steps each."""
    return [tuple(("read", 8 * number + step) for step in range(8)) for number in range(100)]


def no_dealings():
    """What is no list of dealings: things of any kind, and lists with one fault."""
    one = steps("r1 w1")
    return things() + [
        [], one, (one,), [one] * 101, [list(one)], [one, None], [None, one], [one, ()], [one, Hostile()],
        [one, steps("w1 r1")], [one, steps("r1 r1")], [(("read", True),)], [(("read", 10 ** 8 + 1),)], [[one]],
    ]
