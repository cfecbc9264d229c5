"""Runs of programs drawn on a few keys, and what the document says of them, without the program's help."""

import itertools

from anything import clash, does_close, is_free, reads, writes


def plain_run(program, keys):
    """The dealing of a program on these keys ([27])."""
    tables, rows = program
    return tuple((word, at if kind == "box" else tables[at] * 10 ** 6 + keys[at]) for word, (kind, at) in rows)


def casts_on(programs, worths):
    """All casts of the programs on keys of these worths."""
    told = []
    for number, (tables, rows) in enumerate(programs):
        for keys in itertools.product(worths, repeat=len(tables)):
            if len(set(zip(tables, keys))) == len(tables):
                told.append((number, keys))
    return told


def spots_seen(programs, first, other):
    """The sight that another cast is of the first one ([30])."""
    tables, keys = programs[first[0]][0], first[1]
    met = {(table, key): place for place, (table, key) in enumerate(zip(tables, keys))}
    return other[0], tuple(met.get(pair, -1) for pair in zip(programs[other[0]][0], other[1]))


class Pool:
    """All casts on a few keys: each stands for as many runs as are wanted."""

    def __init__(self, programs, worths):
        self.programs = programs
        self.casts = casts_on(programs, worths)
        self.runs = [plain_run(programs[number], keys) for number, keys in self.casts]
        self.links = [
            [other for other, theirs in enumerate(self.runs) if clash(mine, theirs)] for mine in self.runs
        ]
        # All runs of a program are alike but for the names of their keys, so one of each is cut.
        numbers = [number for number, keys in self.casts]
        self.firsts = [numbers.index(number) for number in range(len(programs))]

    def levels_of(self, levels):
        """The level of each cast, by its program's."""
        return [levels[number] for number, keys in self.casts]

    def passing(self, levels, one, other, passed):
        """Whether a row that goes on with another one has a whole one that writes what one reads; None if barred."""
        if levels[one] != "whole" or levels[other] != "whole":
            return passed
        passed = passed or bool(writes(self.runs[other]) & reads(self.runs[one]))
        if passed and reads(self.runs[other]) & writes(self.runs[one]):
            return None
        return passed

    def row_size(self, levels, one, at):
        """The fewest in a row of a cut without fault of one at a place ([18]), None where there is none."""
        free = {other for other in range(len(self.runs)) if is_free(self.runs, levels, one, at, other)}
        box = self.runs[one][at][1]
        layer = [(other, self.passing(levels, one, other, False)) for other in free if box in writes(self.runs[other])]
        met, size = set(), 1
        while layer:
            layer = [state for state in set(layer) - met if state[1] is not None]
            met.update(layer)
            if any(does_close(self.runs, levels, one, at, other) for other, passed in layer):
                return size
            layer = [
                (other, self.passing(levels, one, other, passed))
                for last, passed in layer for other in self.links[last] if other in free
            ]
            size += 1
        return None

    def fewest(self, levels):
        """The fewest casts that aren't safe at these levels of the programs, None where all are."""
        levels = self.levels_of(levels)
        sizes = []
        for one in self.firsts:
            for at, (word, box) in enumerate(self.runs[one]):
                if word == "read":
                    sizes.append(self.row_size(levels, one, at))
        return min((size + 1 for size in sizes if size is not None), default=None)


def enough_keys(programs):
    """Worths enough for all that runs of these programs can be to a run and to one another."""
    most = max(max([tables.count(table) for table in tables], default=0) for tables, rows in programs)
    return range(2 * most)
