"""Boxes, steps, dealings and levels: what they are, and how a dealing is written."""

from asifalone.errors import NoDealing, NoDealings, NoLevels, NoNumber, NoText

MOST_BOX = 10 ** 8
MOST_FIGURES = 9
MOST_STEPS = 8
MOST_DEALINGS = 100
LEVELS = ("lax", "still", "whole")
LETTERS = {"read": "r", "write": "w"}
WORDS = {"r": "read", "w": "write"}


def is_whole(thing):
    """Whether this is a whole number; truths are none."""
    return isinstance(thing, int) and not isinstance(thing, bool)


def is_number(thing, many):
    """Whether this is one of so many numbers from 0 on."""
    return is_whole(thing) and 0 <= thing < many


def is_box(thing):
    """Whether this is a box."""
    return is_number(thing, MOST_BOX + 1)


def is_one_of(thing, words):
    """Whether this is a text, and one of these words."""
    # Other things are kept from ==: what they make of it is their own.
    return isinstance(thing, str) and thing in words


def is_step(thing):
    """Whether this is a step, a tuple ("read", box) or ("write", box)."""
    if not isinstance(thing, tuple) or len(thing) != 2:
        return False
    return is_one_of(thing[0], ("read", "write")) and is_box(thing[1])


def may_follow(step, ahead):
    """Whether a dealing with these steps ahead may go on with this one."""
    # A second write of a box is a step twice, so the write ahead bars whatever step comes behind it.
    return step not in ahead and ("write", step[1]) not in ahead


def is_dealing(thing):
    """Whether this is a dealing."""
    if not isinstance(thing, tuple) or not 1 <= len(thing) <= MOST_STEPS:
        return False
    if not all([is_step(step) for step in thing]):
        return False
    return all([may_follow(step, thing[:place]) for place, step in enumerate(thing)])


def are_dealings(thing):
    """Whether this is a list of one to a hundred dealings."""
    if not isinstance(thing, list) or not 1 <= len(thing) <= MOST_DEALINGS:
        return False
    return all([is_dealing(dealing) for dealing in thing])


def are_levels(thing, many):
    """Whether this is a list of just so many levels."""
    if not isinstance(thing, list) or not is_whole(many) or len(thing) != many:
        return False
    return all([is_one_of(level, LEVELS) for level in thing])


def check_dealing(thing):
    """Refuses what is no dealing."""
    if not is_dealing(thing):
        raise NoDealing("no dealing")


def check_dealings(thing):
    """Refuses what is no list of dealings."""
    if not are_dealings(thing):
        raise NoDealings("no list of one to a hundred dealings")


def check_levels(thing, many):
    """Refuses what is no list of just so many levels."""
    if not are_levels(thing, many):
        raise NoLevels("no list of just so many levels")


def check_number(thing, many):
    """Refuses what is none of so many numbers from 0 on."""
    if not is_number(thing, many):
        raise NoNumber("none of the numbers that there are")


def boxes_of(dealing, asked):
    """The boxes, rising, of those steps of a dealing that have the asked word."""
    return sorted([box for word, box in dealing if word == asked])


def reads_of(dealing):
    """The boxes that a dealing reads, rising."""
    check_dealing(dealing)
    return boxes_of(dealing, "read")


def writes_of(dealing):
    """The boxes that a dealing writes, rising."""
    check_dealing(dealing)
    return boxes_of(dealing, "write")


def clashes(one, other):
    """The boxes, rising, that both dealings touch and at least one of them writes."""
    check_dealing(one)
    check_dealing(other)
    meeting = []
    for mine in one:
        for theirs in other:
            if mine[1] == theirs[1] and "write" in (mine[0], theirs[0]):
                meeting.append(mine[1])
    # A box is met several times where a dealing both reads and writes it.
    return sorted(set(meeting))


def dealing_text(dealing):
    """A dealing as a text: `r3 w3 r12`."""
    check_dealing(dealing)
    return " ".join([f"{LETTERS[word]}{box}" for word, box in dealing])


def are_figures(text):
    """Whether a text writes a number of no more figures than a box may have, no 0 ahead."""
    # The length comes first: int() itself refuses thousands of figures.
    if len(text) > MOST_FIGURES or not text.isascii() or not text.isdigit():
        return False
    return text == "0" or text[0] != "0"


def read_step(word):
    """The step that a word writes, None where it has not the form of one."""
    if word[:1] not in WORDS or not are_figures(word[1:]):
        return None
    return (WORDS[word[0]], int(word[1:]))


def read_dealing(text):
    """The dealing that a text writes."""
    if not isinstance(text, str):
        raise NoText("no text at all")
    dealing = tuple([read_step(word) for word in text.split(" ")])
    if not is_dealing(dealing):
        raise NoText("not the text of a dealing")
    return dealing
