"""Scenes: a run of a program, and how all other runs meet it, as a crowd."""

from asifalone.crowds import Crowd
from asifalone.dealings import clashes, is_whole
from asifalone.programs import dealing_on

# A program has at most three keys. Those of a scene's first run are their places 0, 1, 2; all others are from this on.
NEW_KEY = 3


def spots_for(table, firsts, taken):
    """The spots, rising, that a key of this table can have, where these are the tables of the first run's keys, and
    these spots are those of the keys ahead."""
    return [-1] + [place for place, other in enumerate(firsts) if other == table and place not in taken]


def all_spots(tables, firsts):
    """All spots, sorted, that keys of these tables can have, where these are the tables of the first run's keys."""
    told = [()]
    for table in tables:
        told = [spots + (spot,) for spots in told for spot in spots_for(table, firsts, spots)]
    return told


def all_sights(programs, number):
    """All sights, sorted, that runs of the programs can have of a run of this one."""
    firsts = programs[number][0]
    return [(other, spots) for other, program in enumerate(programs) for spots in all_spots(program[0], firsts)]


def own_keys(program):
    """The keys of a scene's first run."""
    return tuple(range(len(program[0])))


def met_dealing(programs, sight):
    """The steps of runs of a sight, where all keys of a table that are none of the first run's are one and the same:
    so two sights clash just where these steps do."""
    number, spots = sight
    return dealing_on(programs[number], [NEW_KEY if spot == -1 else spot for spot in spots])


class Scene:
    """A run of a program, and all sights of it: in the crowd it is number 0, the sights, sorted, are those behind."""

    def __init__(self, programs, number):
        self.glimpses = all_sights(programs, number)
        self.casting = [number] + [other for other, spots in self.glimpses]
        self.ranks = {sight: rank for rank, sight in enumerate(self.glimpses, start=1)}
        first = dealing_on(programs[number], own_keys(programs[number]))
        self.crowd = Crowd([first] + [met_dealing(programs, sight) for sight in self.glimpses])


def scene_levels(scene, levels):
    """The levels of all in a scene, by those of the programs."""
    return [levels[number] for number in scene.casting]


def rank_of(scene, thing):
    """The number of a sight in the scene's crowd, -1 of what is none."""
    if not isinstance(thing, tuple) or len(thing) != 2 or not is_whole(thing[0]) or not isinstance(thing[1], tuple):
        return -1
    # A truth is equal to a number, and other things are kept from the dict.
    if not all([is_whole(spot) for spot in thing[1]]):
        return -1
    return scene.ranks.get(thing, -1)


def shared_keys(programs, ahead, number, keys):
    """These keys of a program's run, with one new key of it made the same as one of the cast ahead: each way."""
    former, given = ahead
    told = []
    for place, table in enumerate(programs[number][0]):
        for other, theirs in enumerate(programs[former][0]):
            if table == theirs and keys[place] >= NEW_KEY and given[other] >= NEW_KEY:
                told.append(keys[:place] + (given[other],) + keys[place + 1:])
    return told


def cast_behind(programs, ahead, sight, start):
    """A cast of a sight that clashes with the cast ahead, whose sight clashes with this one; its new keys, but one
    that it may share with the cast ahead, are those from start on."""
    number, spots = sight
    before = dealing_on(programs[ahead[0]], ahead[1])
    keys = tuple([start + place if spot == -1 else spot for place, spot in enumerate(spots)])
    ways = [keys] + shared_keys(programs, ahead, number, keys)
    fitting = [way for way in ways if clashes(before, dealing_on(programs[number], way))]
    return (number, fitting[0])


def casts_of_row(programs, scene, row):
    """Casts of the first run and of the sights in a row, in which neighbours clash."""
    number = scene.casting[0]
    casts = [(number, own_keys(programs[number]))]
    for rank in row:
        # As many keys for each cast as one can have, so none but those that are shared are used twice.
        casts.append(cast_behind(programs, casts[-1], scene.glimpses[rank - 1], NEW_KEY * len(casts)))
    return casts
