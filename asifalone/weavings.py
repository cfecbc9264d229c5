"""Weavings of dealings: which lists are one, and their numbers in the order of lists."""

from asifalone.dealings import check_dealings, is_number
from asifalone.errors import NoNumber, NoOrder, NoWeaving


def turns_of(dealings):
    """How often each dealing stands in a weaving: once for each step, and once for its end."""
    return [len(dealing) + 1 for dealing in dealings]


def weaving_fault(dealings, thing):
    """None where this is a weaving of the dealings, else where it is none: -1, a place in it, or its length."""
    check_dealings(dealings)
    if not isinstance(thing, list):
        return -1
    left = turns_of(dealings)
    for place, number in enumerate(thing):
        if not is_number(number, len(left)) or left[number] == 0:
            return place
        left[number] -= 1
    if sum(left) > 0:
        return len(thing)
    return None


def check_weaving(dealings, thing):
    """Refuses what is no weaving of the dealings."""
    place = weaving_fault(dealings, thing)
    if place is not None:
        raise NoWeaving(place)


def is_order(dealings, thing):
    """Whether this is a list of all numbers of the dealings, each once."""
    many = len(dealings)
    if not isinstance(thing, list) or not all([is_number(number, many) for number in thing]):
        return False
    return sorted(thing) == list(range(many))


def one_by_one(dealings, order):
    """The weaving that does each dealing wholly, in this order."""
    check_dealings(dealings)
    if not is_order(dealings, order):
        raise NoOrder("no order of these dealings")
    turns = turns_of(dealings)
    weaving = []
    for number in order:
        weaving.extend([number] * turns[number])
    return weaving


def how_many(dealings):
    """How many weavings of the dealings there are."""
    check_dealings(dealings)
    total = 1
    size = 0
    for times in turns_of(dealings):
        for turn in range(1, times + 1):
            size += 1
            # Exact: the total of the dealings ahead, times the ways to choose `turn` of `size` places.
            total = total * size // turn
    return total


def first_turn(left, number, total):
    """Of the `total` lists in which each stands as often as `left` says, the one of this number:
    its first turn, its number among the lists that begin so, and how many these are."""
    size = sum(left)
    turn = 0
    # Exact: of all lists, those that begin with one are as many as its part of the places.
    share = total * left[turn] // size
    while number >= share:
        number -= share
        turn += 1
        share = total * left[turn] // size
    return turn, number, share


def weaving_at(dealings, number):
    """The weaving of this number, as lists go."""
    total = how_many(dealings)
    if not is_number(number, total):
        raise NoNumber("no weaving of these dealings has this number")
    left = turns_of(dealings)
    weaving = []
    while sum(left) > 0:
        turn, number, total = first_turn(left, number, total)
        weaving.append(turn)
        left[turn] -= 1
    return weaving


def number_of(dealings, weaving):
    """The number of this weaving, as lists go."""
    check_weaving(dealings, weaving)
    left = turns_of(dealings)
    total = how_many(dealings)
    number = 0
    for turn in weaving:
        size = sum(left)
        # All lists that begin with a lesser one come ahead of this weaving.
        number += total * sum(left[:turn]) // size
        total = total * left[turn] // size
        left[turn] -= 1
    return number
