"""Cuts: a dealing that is interrupted behind a read by a row of others, and closes a ring with them."""

from asifalone.crowds import Crowd, barring, bits_of, closing, has, held_by, is_barred, late_for
from asifalone.dealings import check_dealings, check_levels, is_number
from asifalone.errors import NoCut
from asifalone.weavings import turns_of


def row_text(row):
    """The numbers of a row, parted by commas."""
    # Cut takes anything as its row; what is no list is shown as it is.
    if not isinstance(row, list):
        return str(row)
    return ",".join([str(number) for number in row])


class Cut:
    """A cut of one at a place: the row of others is done behind this step, ahead of the rest."""

    def __init__(self, one, at, row):
        self.one = one
        self.at = at
        self.row = list(row) if isinstance(row, list) else row

    def __eq__(self, other):
        return isinstance(other, Cut) and self.one == other.one and self.at == other.at and self.row == other.row

    def __str__(self):
        return f"{self.one}.{self.at}:{row_text(self.row)}"


def is_row(dealings, one, thing):
    """Whether this is a list of numbers of other dealings than one, each once, one at least."""
    if not isinstance(thing, list) or len(thing) == 0:
        return False
    if not all([is_number(number, len(dealings)) and number != one for number in thing]):
        return False
    return len(set(thing)) == len(thing)


def is_cut(dealings, thing):
    """Whether this has the form of a cut of these dealings."""
    if not isinstance(thing, Cut) or not is_number(thing.one, len(dealings)):
        return False
    return is_number(thing.at, len(dealings[thing.one])) and is_row(dealings, thing.one, thing.row)


def is_chain(crowd, row):
    """Whether any two neighbours in a row clash."""
    return all([has(crowd.near[one], other) for one, other in zip(row, row[1:])])


def cut_fault(dealings, levels, cut):
    """None where the cut is without fault at these levels, else the word of its first fault."""
    check_dealings(dealings)
    check_levels(levels, len(dealings))
    if not is_cut(dealings, cut):
        return "form"
    word, box = dealings[cut.one][cut.at]
    if word != "read":
        return "read"
    crowd = Crowd(dealings)
    level = levels[cut.one]
    row = bits_of(cut.row)
    if not has(crowd.writers.get(box, 0), cut.row[0]):
        return "first"
    if row & held_by(crowd, cut.one, cut.at):
        return "held"
    if row & late_for(crowd, cut.one, level):
        return "late"
    if not is_chain(crowd, cut.row):
        return "chain"
    if not has(closing(crowd, cut.one, level, cut.at), cut.row[-1]):
        return "close"
    writing, reading = barring(crowd, levels, cut.one)
    if is_barred(cut.row, writing, reading):
        return "barred"
    return None


def cut_weaving(dealings, cut):
    """The weaving of a cut: one up to its place, the row, the rest of one, then all others, rising."""
    check_dealings(dealings)
    if not is_cut(dealings, cut):
        raise NoCut("no cut of these dealings")
    turns = turns_of(dealings)
    weaving = [cut.one] * (cut.at + 1)
    for number in cut.row:
        weaving.extend([number] * turns[number])
    weaving.extend([cut.one] * (turns[cut.one] - cut.at - 1))
    for number in range(len(dealings)):
        if number != cut.one and number not in cut.row:
            weaving.extend([number] * turns[number])
    return weaving
