"""Shields: parts of those aside of a dealing, which show without search that no cut of it is without fault."""

from asifalone.crowds import Crowd, aside_of, barring, bit_of, bits_of, first_in, gaps_of, has, is_barred
from asifalone.crowds import numbers_in, spread
from asifalone.dealings import check_dealings, check_levels, check_number, is_number


def part_from(crowd, start, within):
    """The set of those that are linked by clashes to the start, all of them within this set."""
    part = bit_of(start)
    rim = part
    while rim:
        rim = spread(crowd, rim) & within & ~part
        part |= rim
    return part


def finest_parts(crowd, number):
    """The shield of this one that has most parts."""
    left = aside_of(crowd, number)
    parts = []
    while left:
        part = part_from(crowd, first_in(left), left)
        parts.append(numbers_in(part))
        left &= ~part
    return parts


def shield(dealings, number):
    """The shield of this one that has most parts."""
    check_dealings(dealings)
    check_number(number, len(dealings))
    return finest_parts(Crowd(dealings), number)


def has_shield_form(crowd, number, thing):
    """Whether this is a list of lists, none of them empty, of numbers aside of this one, none twice."""
    if not isinstance(thing, list):
        return False
    if not all([isinstance(part, list) and len(part) > 0 for part in thing]):
        return False
    aside = aside_of(crowd, number)
    numbers = [other for part in thing for other in part]
    if not all([is_number(other, len(crowd.members)) and has(aside, other) for other in numbers]):
        return False
    return len(set(numbers)) == len(numbers)


def is_lacking(crowd, number, parts):
    """Whether one aside is in none of these parts, or clashes with one in another part."""
    aside = aside_of(crowd, number)
    met = 0
    for part in parts:
        met |= part
        if spread(crowd, part) & aside & ~part:
            return True
    return met != aside


def led_from(crowd, first, parts):
    """The set of those that are the first one, or clash with it, or each with one of the same part."""
    bits = bit_of(first) | crowd.near[first]
    for part in parts:
        if crowd.near[first] & part:
            bits |= spread(crowd, part)
    return bits


def is_led(crowd, gap, parts, bars):
    """Whether two lead to one another at this gap."""
    at, firsts, lasts, free = gap
    writing, reading = bars
    for first in numbers_in(firsts):
        for last in numbers_in(led_from(crowd, first, parts) & lasts):
            # A row of the one twice is barred just where the row of it alone is.
            if not is_barred([first, last], writing, reading):
                return True
    return False


def parts_fault(crowd, levels, number, thing):
    """None where this is a shield of this one without fault at these levels; else "form", "lacks", or the place
    of the first read at which two lead to one another."""
    if not has_shield_form(crowd, number, thing):
        return "form"
    parts = [bits_of(part) for part in thing]
    if is_lacking(crowd, number, parts):
        return "lacks"
    bars = barring(crowd, levels, number)
    for gap in gaps_of(crowd, number, levels[number]):
        if is_led(crowd, gap, parts, bars):
            return gap[0]
    return None


def shield_fault(dealings, levels, number, thing):
    """None where this is a shield of this one without fault at these levels; else "form", "lacks", or the place
    of the first read at which two lead to one another."""
    check_dealings(dealings)
    check_levels(levels, len(dealings))
    check_number(number, len(dealings))
    return parts_fault(Crowd(dealings), levels, number, thing)
