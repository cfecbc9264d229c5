"""Programs at levels: whether all runs of them are safe, their least levels, and their shields."""

from asifalone.cuts import Cut
from asifalone.dealings import check_levels, check_number
from asifalone.least import cut_of
from asifalone.programs import check_programs
from asifalone.scenes import Scene, all_sights, casts_of_row, rank_of, scene_levels
from asifalone.shields import finest_parts, parts_fault


def scenes_of(programs):
    """The scene of each program."""
    return [Scene(programs, number) for number in range(len(programs))]


def shortest_scene(scenes, levels):
    """Of the cuts without fault, in all scenes, of the first runs one with the shortest row, as a tuple of its
    scene and of it; None where there is none."""
    best = None
    for scene in scenes:
        cut = cut_of(scene.crowd, scene_levels(scene, levels), 0)
        if cut is not None and (best is None or len(cut.row) < len(best[1].row)):
            best = (scene, cut)
    return best


def check_asked(programs, levels):
    """Refuses what is no programs, levels, in this order."""
    check_programs(programs)
    check_levels(levels, len(programs))


def safe_programs(programs, levels):
    """Whether each list of casts, each cast at its program's level, is safe."""
    check_asked(programs, levels)
    return shortest_scene(scenes_of(programs), levels) is None


def unsafe_cast(programs, levels):
    """As few casts as can be that aren't safe, and a cut of the first one by a row of the others; None where the
    programs are safe."""
    check_asked(programs, levels)
    found = shortest_scene(scenes_of(programs), levels)
    if found is None:
        return None
    scene, cut = found
    casts = casts_of_row(programs, scene, cut.row)
    return (casts, Cut(0, cut.at, list(range(1, len(casts)))))


def laxest_of(scenes, number):
    """The laxest level of this program at which the programs are safe, all others being whole."""
    for level in ("lax", "still"):
        levels = ["whole" for scene in scenes]
        levels[number] = level
        if shortest_scene(scenes, levels) is None:
            return level
    # Where all are whole, each row is barred by its first one and its last one.
    return "whole"


def least_of(programs, number):
    """The laxest level of this program at which the programs are safe, all others being whole."""
    check_programs(programs)
    check_number(number, len(programs))
    return laxest_of(scenes_of(programs), number)


def least_of_all(programs):
    """The least level of each program."""
    check_programs(programs)
    scenes = scenes_of(programs)
    return [laxest_of(scenes, number) for number in range(len(programs))]


def sights(programs, number):
    """All sights, sorted, that runs of the programs can have of a run of this one."""
    check_programs(programs)
    check_number(number, len(programs))
    return all_sights(programs, number)


def program_shield(programs, number):
    """The shield of this program that has most parts."""
    check_programs(programs)
    check_number(number, len(programs))
    scene = Scene(programs, number)
    return [[scene.glimpses[rank - 1] for rank in part] for part in finest_parts(scene.crowd, 0)]


def ranked_part(scene, part):
    """A part with the number of each sight in the crowd in its place; as it is, where it is no list."""
    if not isinstance(part, list):
        return part
    return [rank_of(scene, thing) for thing in part]


def program_shield_fault(programs, levels, number, thing):
    """None where this is a shield of this program without fault at these levels; else "form", "lacks", or the place
    of the first read at which two sights lead to one another."""
    check_asked(programs, levels)
    check_number(number, len(programs))
    if not isinstance(thing, list):
        return "form"
    scene = Scene(programs, number)
    parts = [ranked_part(scene, part) for part in thing]
    return parts_fault(scene.crowd, scene_levels(scene, levels), 0, parts)
