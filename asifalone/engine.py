"""The engine: it takes the deeds of dealings one by one, and tells which of them it bars."""

NOBODY = -1


class Engine:
    """What a store holds behind the deeds done so far, each of which has a moment of its own, counted from 0 on."""

    def __init__(self, levels):
        self.strictness = list(levels)
        self.moment = 0
        self.begins = {}
        # The ends stand in the order in which they came.
        self.ends = {}
        # The versions of each box that has more than nobody's, the eldest first.
        self.stock = {}
        # Of each box that one wrote that isn't ended, this one.
        self.holders = {}
        self.drafts = [[] for level in levels]
        # Of each dealing, for each box that it read, the place among the versions of the one that it saw.
        self.views = [{} for level in levels]
        self.looks = []
        # The whole ones that may still be the y of a chain: they missed a version of a whole one that ended ahead.
        self.middles = {}

    def admit(self, level):
        """Takes in one more, at this level; it begins with its first deed."""
        self.strictness.append(level)
        self.drafts.append([])
        self.views.append({})

    def kept(self, box):
        """The versions of a box, the eldest first."""
        return self.stock.get(box, [NOBODY])

    def begin_of(self, number):
        """The moment of a dealing's first step, which is now where it did none yet."""
        return self.begins.get(number, self.moment)

    def place_seen(self, number, box):
        """The place, among the versions of its box, of the one that a read sees now."""
        rows = self.kept(box)
        place = len(rows) - 1
        if self.strictness[number] != "lax":
            while place > 0 and self.ends[rows[place]] > self.begin_of(number):
                place -= 1
        return place

    def bar_of_write(self, number, box):
        """Why and by whom a write is barred, None where it isn't."""
        if box in self.holders:
            return ("held", self.holders[box])
        newest = self.kept(box)[-1]
        if newest == NOBODY or self.strictness[number] == "lax":
            return None
        if self.ends[newest] > self.begin_of(number):
            return ("late", newest)
        return None

    def missed(self, number):
        """The whole ones with a version newer than the one that a read of this dealing saw."""
        told = []
        for box, place in self.views[number].items():
            told.extend([other for other in self.kept(box)[place + 1:] if self.strictness[other] == "whole"])
        return told

    def is_missed_since(self, number, moment):
        """Whether a whole one that ended at this moment or behind it read a box that this dealing wrote."""
        for other in self.ends:
            if self.strictness[other] == "whole" and self.ends[other] >= moment:
                if any([box in self.views[other] for box in self.drafts[number]]):
                    return True
        return False

    def chain_middles(self, number):
        """The y of each chain x, y, z of whole ones that the end of this one would make."""
        # It ends last, so it is x or y. A whole one missed just versions put in behind its begin: those that
        # miss one another this way overlap.
        missed = self.missed(number)
        told = [other for other in missed if other in self.middles]
        if missed and self.is_missed_since(number, min([self.ends[other] for other in missed])):
            told.append(number)
        return told

    def bar_of_end(self, number):
        """Why and by whom an end is barred, None where it isn't."""
        if self.strictness[number] != "whole":
            return None
        middles = self.chain_middles(number)
        if not middles:
            return None
        return ("chain", min(middles))

    def bar(self, number, step):
        """Why and by whom a deed is barred, None where it isn't; the end is told as the step None."""
        if step is None:
            return self.bar_of_end(number)
        if step[0] == "write":
            return self.bar_of_write(number, step[1])
        return None

    def take_read(self, number, box):
        """Does a read."""
        place = self.place_seen(number, box)
        self.views[number][box] = place
        self.looks.append((number, box, self.kept(box)[place]))

    def take_write(self, number, box):
        """Does a write: nobody sees it ahead of the end."""
        self.holders[box] = number
        self.drafts[number].append(box)

    def take_end(self, number):
        """Does an end: each box written gets its version."""
        # Asked ahead of the own versions, which are newer than what the own reads saw.
        if self.strictness[number] == "whole" and self.missed(number):
            self.middles[number] = True
        for box in self.drafts[number]:
            self.stock[box] = self.kept(box) + [number]
            del self.holders[box]
        self.ends[number] = self.moment

    def take(self, number, step):
        """Does a deed that isn't barred; the end is told as the step None."""
        self.begins.setdefault(number, self.moment)
        if step is None:
            self.take_end(number)
        elif step[0] == "write":
            self.take_write(number, step[1])
        else:
            self.take_read(number, step[1])
        self.moment += 1

    def give_up(self, number):
        """Gives one up that isn't ended: what it wrote was never written."""
        for box in self.drafts[number]:
            del self.holders[box]
        self.drafts[number] = []
        self.moment += 1


def next_step(dealing, done):
    """The step that a dealing does behind so many, None where it ends."""
    if done == len(dealing):
        return None
    return dealing[done]


def go_through(dealings, levels, weaving):
    """The engine behind this weaving, and None; or where it barred a deed, and (place, why, by) of this one."""
    engine = Engine(levels)
    done = [0] * len(dealings)
    for place, number in enumerate(weaving):
        step = next_step(dealings[number], done[number])
        bar = engine.bar(number, step)
        if bar is not None:
            why, by = bar
            return engine, (place, why, by)
        engine.take(number, step)
        done[number] += 1
    return engine, None
