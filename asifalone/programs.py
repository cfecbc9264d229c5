"""Programs: dealings whose boxes hang on keys, and the runs of them on keys that are told."""

from asifalone.dealings import is_number, is_one_of, is_whole, may_follow
from asifalone.errors import NoCasts, NoKeys, NoProgram, NoPrograms

MANY_KEYS = 10 ** 6
MOST_TABLE = 9
MOST_TABLES = 3
MOST_STEPS = 6
MOST_PROGRAMS = 4
MOST_CASTS = 100


def are_tables(thing):
    """Whether this is a tuple of none to three tables."""
    if not isinstance(thing, tuple) or len(thing) > MOST_TABLES:
        return False
    return all([is_whole(table) and 1 <= table <= MOST_TABLE for table in thing])


def is_slot(thing, many):
    """Whether this is a slot of a program of so many keys."""
    if not isinstance(thing, tuple) or len(thing) != 2 or not is_one_of(thing[0], ("box", "key")):
        return False
    if thing[0] == "box":
        return is_number(thing[1], MANY_KEYS)
    return is_number(thing[1], many)


def is_slot_step(thing, many):
    """Whether this is a step on a slot of a program of so many keys."""
    if not isinstance(thing, tuple) or len(thing) != 2:
        return False
    return is_one_of(thing[0], ("read", "write")) and is_slot(thing[1], many)


def are_slot_steps(thing, many):
    """Whether this is a tuple of steps that a program of so many keys may have."""
    if not isinstance(thing, tuple) or not 1 <= len(thing) <= MOST_STEPS:
        return False
    if not all([is_slot_step(step, many) for step in thing]):
        return False
    return all([may_follow(step, thing[:place]) for place, step in enumerate(thing)])


def is_program(thing):
    """Whether this is a program."""
    if not isinstance(thing, tuple) or len(thing) != 2:
        return False
    tables, steps = thing
    if not are_tables(tables) or not are_slot_steps(steps, len(tables)):
        return False
    slots = [slot for word, slot in steps]
    return all([("key", place) in slots for place in range(len(tables))])


def are_programs(thing):
    """Whether this is a list of one to four programs."""
    if not isinstance(thing, list) or not 1 <= len(thing) <= MOST_PROGRAMS:
        return False
    return all([is_program(program) for program in thing])


def check_programs(thing):
    """Refuses what is no list of programs."""
    if not are_programs(thing):
        raise NoPrograms("no list of one to four programs")


def are_keys(tables, thing):
    """Whether this is a tuple of one key for each of these tables, unlike ones where the tables are alike."""
    if not isinstance(thing, tuple) or len(thing) != len(tables):
        return False
    if not all([is_number(key, MANY_KEYS) for key in thing]):
        return False
    return len({(table, key) for table, key in zip(tables, thing)}) == len(tables)


def box_at(tables, keys, slot):
    """The box of a slot, where these are the keys."""
    word, at = slot
    if word == "box":
        return at
    return tables[at] * MANY_KEYS + keys[at]


def dealing_on(program, keys):
    """The dealing of a program on these keys, of which nothing is asked here."""
    tables, steps = program
    return tuple([(word, box_at(tables, keys, slot)) for word, slot in steps])


def run_of(program, keys):
    """The dealing of a program on these keys."""
    if not is_program(program):
        raise NoProgram("no program")
    if not are_keys(program[0], keys):
        raise NoKeys("no keys for this program")
    return dealing_on(program, keys)


def is_cast(programs, thing):
    """Whether this is a cast: a program's number, and keys for it."""
    if not isinstance(thing, tuple) or len(thing) != 2 or not is_number(thing[0], len(programs)):
        return False
    return are_keys(programs[thing[0]][0], thing[1])


def cast(programs, casts):
    """The dealings of these casts of the programs."""
    check_programs(programs)
    if not isinstance(casts, list) or not 1 <= len(casts) <= MOST_CASTS:
        raise NoCasts("no list of one to a hundred casts")
    if not all([is_cast(programs, thing) for thing in casts]):
        raise NoCasts("not all are casts of these programs")
    return [dealing_on(programs[number], keys) for number, keys in casts]
