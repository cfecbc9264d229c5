"""Crowds: dealings, and which of them touch which boxes, as sets of their numbers.

A set of numbers is held as a whole number, in which the bit of each number of the set is 1: so sets are joined and
met by one sign, and a hundred dealings are gone over quickly.
"""


def bit_of(number):
    """The set of one number."""
    return 1 << number


def bits_of(numbers):
    """The set of these numbers."""
    bits = 0
    for number in numbers:
        bits |= bit_of(number)
    return bits


def has(bits, number):
    """Whether a number is in a set."""
    return (bits >> number) & 1 == 1


def first_in(bits):
    """The least number of a set that is not empty."""
    return (bits & -bits).bit_length() - 1


def numbers_in(bits):
    """The list of the numbers of a set, rising."""
    return [number for number in range(bits.bit_length()) if has(bits, number)]


def users_of(dealings, asked):
    """For each box the set of those with a step on it that has the asked word."""
    told = {}
    for number, dealing in enumerate(dealings):
        for word, box in dealing:
            if word == asked:
                told[box] = told.get(box, 0) | bit_of(number)
    return told


class Crowd:
    """Dealings, who of them reads and who writes each box, and who clashes with whom."""

    def __init__(self, dealings):
        self.members = list(dealings)
        self.everybody = bit_of(len(dealings)) - 1
        self.readers = users_of(dealings, "read")
        self.writers = users_of(dealings, "write")
        # What gaps_of told already, by number and level.
        self.known = {}
        self.near = [meeting(self, dealing) & ~bit_of(number) for number, dealing in enumerate(dealings)]


def readers_of(crowd, boxes):
    """The set of those that read one of these boxes."""
    bits = 0
    for box in boxes:
        bits |= crowd.readers.get(box, 0)
    return bits


def writers_of(crowd, boxes):
    """The set of those that write one of these boxes."""
    bits = 0
    for box in boxes:
        bits |= crowd.writers.get(box, 0)
    return bits


def boxes_in(steps, asked):
    """The boxes of those of these steps that have the asked word."""
    return [box for word, box in steps if word == asked]


def meeting(crowd, steps):
    """The set of those that write a box that these steps touch, or touch one that these steps write."""
    written = boxes_in(steps, "write")
    return writers_of(crowd, boxes_in(steps, "read") + written) | readers_of(crowd, written)


def spread(crowd, bits):
    """The set of those that clash with one of this set."""
    told = 0
    for number in numbers_in(bits):
        told |= crowd.near[number]
    return told


def others_of(crowd, number):
    """The set of all but this one."""
    return crowd.everybody & ~bit_of(number)


def aside_of(crowd, number):
    """The set of those aside of this one: the others that don't clash with it."""
    return others_of(crowd, number) & ~crowd.near[number]


def held_by(crowd, number, at):
    """The set of those that write a box that this one writes at a place up to at."""
    return writers_of(crowd, boxes_in(crowd.members[number][:at + 1], "write"))


def late_for(crowd, number, level):
    """The set of those that make this one late at its level: they write a box that it writes."""
    if level == "lax":
        return 0
    return writers_of(crowd, boxes_in(crowd.members[number], "write"))


def closing(crowd, number, level, at):
    """The set of those that close a cut of this one at this place."""
    dealing = crowd.members[number]
    bits = readers_of(crowd, boxes_in(dealing, "write"))
    if level == "lax":
        bits |= meeting(crowd, dealing[at + 1:])
    return bits


def gap_at(crowd, number, level, at):
    """Of a read of this one: its place, and the sets of those that may stand first, last, anywhere in a row there."""
    box = crowd.members[number][at][1]
    free = others_of(crowd, number) & ~held_by(crowd, number, at) & ~late_for(crowd, number, level)
    return at, crowd.writers.get(box, 0) & free, closing(crowd, number, level, at) & free, free


def gaps_of(crowd, number, level):
    """The gaps at all reads of this one, in the order of their places."""
    key = (number, level)
    if key not in crowd.known:
        places = [at for at, step in enumerate(crowd.members[number]) if step[0] == "read"]
        crowd.known[key] = [gap_at(crowd, number, level, at) for at in places]
    return crowd.known[key]


def whole_ones(levels):
    """The set of those whose level is whole."""
    return bits_of([number for number, level in enumerate(levels) if level == "whole"])


def barring(crowd, levels, number):
    """The sets of the whole ones that write what this one reads, and that read what it writes; empty ones where
    its level isn't whole. A row with one of the former, and with one of the latter there or behind, is barred."""
    if levels[number] != "whole":
        return 0, 0
    whole = whole_ones(levels)
    dealing = crowd.members[number]
    writing = writers_of(crowd, boxes_in(dealing, "read"))
    reading = readers_of(crowd, boxes_in(dealing, "write"))
    return writing & whole, reading & whole


def is_barred(row, writing, reading):
    """Whether a row is barred, by the two sets that barring tells."""
    passed = False
    for number in row:
        passed = passed or has(writing, number)
        if passed and has(reading, number):
            return True
    return False
