"""Widening: reads that are made writes too, so that dealings are safe though all of them are still."""

from asifalone.dealings import MOST_STEPS, check_dealings, is_whole
from asifalone.errors import NoPlaces, NoRoom, TooMany
from asifalone.least import safe

MOST_WIDE = 8


def places_in(dealings):
    """All wide places of dealings, sorted."""
    told = []
    for number, dealing in enumerate(dealings):
        for place, (word, box) in enumerate(dealing):
            if word == "read" and ("write", box) not in dealing:
                told.append((number, place))
    return told


def are_places(dealings, thing):
    """Whether this is a list of wide places of the dealings, each once."""
    if not isinstance(thing, list):
        return False
    wide = places_in(dealings)
    met = {}
    for place in thing:
        # The form first: a truth is equal to a number, and other things are kept from == and from the dict.
        if not isinstance(place, tuple) or not all([is_whole(part) for part in place]):
            return False
        if place not in wide or place in met:
            return False
        met[place] = True
    return True


def widened_dealing(number, dealing, places):
    """The dealing of this number, with a write put right behind each of its reads that stands in these places."""
    steps = []
    for place, step in enumerate(dealing):
        steps.append(step)
        if (number, place) in places:
            steps.append(("write", step[1]))
    return tuple(steps)


def put_in(dealings, places):
    """The dealings widened by these wide places; refused where one would have too many steps."""
    told = [widened_dealing(number, dealing, places) for number, dealing in enumerate(dealings)]
    if any([len(dealing) > MOST_STEPS for dealing in told]):
        raise NoRoom("a dealing would have more than eight steps")
    return told


def wide_places(dealings):
    """All wide places of the dealings, sorted."""
    check_dealings(dealings)
    return places_in(dealings)


def widened(dealings, places):
    """The dealings, with a write put right behind the read at each of these wide places."""
    check_dealings(dealings)
    if not are_places(dealings, places):
        raise NoPlaces("no list of wide places of these dealings, each once")
    return put_in(dealings, places)


def choices_of(rows, many):
    """All lists of so many of these rows, in their order: those that begin with the first one first."""
    if many == 0:
        return [[]]
    told = []
    for at, row in enumerate(rows):
        told.extend([[row] + rest for rest in choices_of(rows[at + 1:], many - 1)])
    return told


def fewest_wide(dealings):
    """The shortest list of wide places, of several the first, by which the dealings are safe, all still."""
    wide = wide_places(dealings)
    if len(wide) > MOST_WIDE:
        raise TooMany("more than eight wide places")
    # Where there is room for all of them, there is for some.
    put_in(dealings, wide)
    levels = ["still" for dealing in dealings]
    for many in range(len(wide)):
        for places in choices_of(wide, many):
            if safe(put_in(dealings, places), levels):
                return places
    # By all of them each box that is read is written too: whoever could cut in at a read of it would be late.
    return wide
