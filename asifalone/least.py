"""Safe levels: the shortest cuts without fault, and the least level of each dealing."""

from asifalone.crowds import Crowd, barring, first_in, gaps_of, spread
from asifalone.cuts import Cut, cut_weaving
from asifalone.dealings import check_dealings, check_levels, check_number
from asifalone.runs import Run


def row_through(crowd, layers, last):
    """A row through these layers to the last one, each of whom clashes with the one ahead."""
    row = [last]
    for layer in reversed(layers[:-1]):
        row.append(first_in(layer & crowd.near[row[-1]]))
    return row[::-1]


def shortest_row(crowd, firsts, lasts, free):
    """The shortest row of free ones, from one of the firsts to one of the lasts, in which neighbours clash;
    None where there is none."""
    if lasts == 0:
        return None
    layers = [firsts]
    left = free & ~firsts
    while (layers[-1] & lasts) == 0:
        if layers[-1] == 0:
            return None
        layer = spread(crowd, layers[-1]) & left
        left &= ~layer
        layers.append(layer)
    return row_through(crowd, layers, first_in(layers[-1] & lasts))


def bans_of(crowd, levels, number):
    """Sets of which one is left out of a row, so that it isn't barred."""
    # A row is barred by one of the former set, and one of the latter there or behind. The former may all stand
    # first in a row, the latter all last; so in the shortest one that isn't barred they stand nowhere else, and
    # there are none of the former in it, or none of the latter.
    writing, reading = barring(crowd, levels, number)
    if writing == 0 or reading == 0:
        return [0]
    return [writing, reading]


def cut_of(crowd, levels, number):
    """Of the cuts of this one without fault one with the shortest row, None where there is none."""
    bans = bans_of(crowd, levels, number)
    best = None
    for at, firsts, lasts, free in gaps_of(crowd, number, levels[number]):
        for ban in bans:
            row = shortest_row(crowd, firsts & ~ban, lasts & ~ban, free & ~ban)
            if row is not None and (best is None or len(row) < len(best.row)):
                best = Cut(number, at, row)
    return best


def shortest_cut(crowd, levels, numbers):
    """Of the cuts of these ones without fault one with the shortest row, None where there is none."""
    best = None
    for number in numbers:
        cut = cut_of(crowd, levels, number)
        if cut is not None and (best is None or len(cut.row) < len(best.row)):
            best = cut
            # No row is shorter than that of one.
            if len(best.row) == 1:
                break
    return best


def unsafe(dealings, levels, *, one=None):
    """A cut without fault at these levels, of this one alone where one is told, with as few in its row as can be;
    None where there is none."""
    check_dealings(dealings)
    many = len(dealings)
    check_levels(levels, many)
    if one is None:
        return shortest_cut(Crowd(dealings), levels, list(range(many)))
    check_number(one, many)
    return shortest_cut(Crowd(dealings), levels, [one])


def safe(dealings, levels):
    """Whether no cut is without fault at these levels."""
    return unsafe(dealings, levels) is None


def tangle(dealings, levels):
    """A run at these levels that has a ring, None where the dealings are safe."""
    cut = unsafe(dealings, levels)
    if cut is None:
        return None
    return Run(dealings, levels, cut_weaving(dealings, cut))


def laxest_level(crowd, number):
    """The laxest level of this one at which the dealings are safe, all others being whole."""
    numbers = list(range(len(crowd.members)))
    for level in ("lax", "still"):
        levels = ["whole" for other in numbers]
        levels[number] = level
        if shortest_cut(crowd, levels, numbers) is None:
            return level
    # Where all are whole, each row is barred: its first one and its last one are enough for this.
    return "whole"


def least_level(dealings, number):
    """The laxest level of this one at which the dealings are safe, all others being whole."""
    check_dealings(dealings)
    check_number(number, len(dealings))
    return laxest_level(Crowd(dealings), number)


def least_levels(dealings):
    """The least level of each dealing."""
    check_dealings(dealings)
    crowd = Crowd(dealings)
    return [laxest_level(crowd, number) for number in range(len(dealings))]
