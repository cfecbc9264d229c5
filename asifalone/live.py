"""A live store, in which dealings are done as they come."""

from asifalone.dealings import LEVELS, is_box, is_dealing, is_number, is_one_of
from asifalone.engine import Engine
from asifalone.errors import Barred, NoBox, NoLevel, NoNumber, NoStep, TooMany
from asifalone.runs import Run

MOST_BEGUN = 12


def check_waiting(store, thing):
    """Refuses what is no number of one that is neither ended nor dropped."""
    if not is_number(thing, len(store.steps)) or thing not in store.busy:
        raise NoNumber("none that is begun here, and neither ended nor dropped, has this number")


def check_bar(store, number, step):
    """Refuses a deed that the store bars; the end is told as the step None."""
    bar = store.engine.bar(number, step)
    if bar is not None:
        why, by = bar
        raise Barred(store.engine.moment, why, by)


def do_step(store, number, step):
    """Does a step of one."""
    check_waiting(store, number)
    if not is_box(step[1]):
        raise NoBox("no box")
    steps = store.steps[number] + (step,)
    if not is_dealing(steps):
        raise NoStep("with this step behind those done, these would be no dealing")
    check_bar(store, number, step)
    store.engine.take(number, step)
    store.steps[number] = steps
    store.deeds.append((number, step[0], step[1]))


def leave(store, number, word):
    """Has one leave those that wait, by its end or because it is dropped."""
    del store.busy[number]
    store.deeds.append((number, word, None))


def do_again(store, number, word, box):
    """Does a deed of another store."""
    if word == "read":
        store.read(number, box)
    elif word == "write":
        store.write(number, box)
    elif word == "end":
        store.end(number)
    else:
        store.drop(number)


def ended_numbers(store):
    """The numbers of the ended ones, rising."""
    return sorted(store.engine.ends)


class Live:
    """A store in which dealings are done as they come."""

    def __init__(self):
        self.engine = Engine([])
        # Of each one that was begun, the steps that it did.
        self.steps = []
        # Those that are neither ended nor dropped.
        self.busy = {}
        # All deeds done, as tuples of the number, the word, and the box or None.
        self.deeds = []

    def begin(self, level="lax"):
        """The number of a new dealing, at this level."""
        if not is_one_of(level, LEVELS):
            raise NoLevel("no level")
        number = len(self.steps)
        if number == MOST_BEGUN:
            raise TooMany("twelve were begun already")
        self.engine.admit(level)
        self.steps.append(())
        self.busy[number] = True
        return number

    def read(self, number, box):
        """Reads a box: the number of the one whose version it sees, -1 for nobody's."""
        do_step(self, number, ("read", box))
        return self.engine.looks[-1][2]

    def write(self, number, box):
        """Writes a box."""
        do_step(self, number, ("write", box))

    def end(self, number):
        """Ends a dealing."""
        check_waiting(self, number)
        if not self.steps[number]:
            raise NoStep("one without a step has no end")
        check_bar(self, number, None)
        self.engine.take(number, None)
        leave(self, number, "end")

    def drop(self, number):
        """Gives a dealing up: what it wrote was never written."""
        check_waiting(self, number)
        self.engine.give_up(number)
        leave(self, number, "drop")

    def waiting(self):
        """The numbers, rising, of those that are neither ended nor dropped."""
        return sorted(self.busy)

    def ended_dealings(self):
        """The dealings that are ended, in the order of their numbers."""
        return [self.steps[number] for number in ended_numbers(self)]

    def ended_levels(self):
        """The levels of those that are ended, in the order of their numbers."""
        return [self.engine.strictness[number] for number in ended_numbers(self)]

    def ended_weaving(self):
        """The weaving of those that are ended, which are numbered anew."""
        names = {number: name for name, number in enumerate(ended_numbers(self))}
        return [names[number] for number, word, box in self.deeds if number in names]

    def run(self):
        """The run of those that are ended."""
        return Run(self.ended_dealings(), self.ended_levels(), self.ended_weaving())

    def twin(self):
        """Another store that stands alike."""
        other = Live()
        # A begin is no deed, and none hangs on where it stood between them.
        for level in list(self.engine.strictness):
            other.begin(level)
        for number, word, box in list(self.deeds):
            do_again(other, number, word, box)
        return other
