"""Runs of weavings that the store lets by: what is seen, the ties, their rings, and the order that does the same."""

from asifalone.dealings import check_dealings, check_levels, check_number, is_box, is_number, is_one_of
from asifalone.engine import go_through
from asifalone.errors import Barred, NoBox, NoTie
from asifalone.ties import KINDS, all_ties, first_order, has_tie_form, shortest_ring
from asifalone.weavings import check_weaving, one_by_one


def check_run(dealings, levels, weaving):
    """Refuses what is no dealings, levels, weaving, in this order."""
    check_dealings(dealings)
    check_levels(levels, len(dealings))
    check_weaving(dealings, weaving)


def barred(dealings, levels, weaving):
    """None where the weaving is let by, else (place, why, by) of the first one in it that is barred."""
    check_run(dealings, levels, weaving)
    engine, fault = go_through(dealings, levels, weaving)
    return fault


class Run:
    """The run of a weaving that is let by wholly."""

    def __init__(self, dealings, levels, weaving):
        check_run(dealings, levels, weaving)
        engine, fault = go_through(dealings, levels, weaving)
        if fault is not None:
            place, why, by = fault
            raise Barred(place, why, by)
        self.own_dealings = list(dealings)
        self.own_levels = list(levels)
        self.own_weaving = list(weaving)
        self.engine = engine

    # The fields are told as new lists: what the asker does to them changes nothing in the run.
    @property
    def dealings(self):
        """The dealings."""
        return list(self.own_dealings)

    @property
    def levels(self):
        """Their levels."""
        return list(self.own_levels)

    @property
    def weaving(self):
        """The weaving of them."""
        return list(self.own_weaving)

    def __eq__(self, other):
        if not isinstance(other, Run) or self.own_dealings != other.own_dealings:
            return False
        return self.own_levels == other.own_levels and self.own_weaving == other.own_weaving

    def seen(self):
        """All reads, in the weaving's order, as tuples (number, box, whose version it saw)."""
        return list(self.engine.looks)

    def ended(self):
        """The numbers in the order in which the dealings end."""
        return list(self.engine.ends)

    def versions(self, box):
        """The versions of a box, from nobody's, -1, on."""
        if not is_box(box):
            raise NoBox("no box")
        return list(self.engine.kept(box))

    def ties(self, *, kind=None):
        """All ties, sorted; those of a kind alone, where one is told."""
        if kind is not None and not is_one_of(kind, KINDS):
            raise NoTie("no kind of tie")
        told = all_ties(self.engine.stock, self.engine.views)
        return [tie for tie in told if kind is None or tie[2] == kind]

    def ring(self, *, through=None):
        """A ring with fewest ties, of those through a number where one is told; None where there is none."""
        many = len(self.own_dealings)
        if through is None:
            return shortest_ring(self.ties(), list(range(many)))
        check_number(through, many)
        return shortest_ring(self.ties(), [through])

    def order(self):
        """The first order, as lists go, with each tie's one ahead of its other; None where there is a ring."""
        return first_order(len(self.own_dealings), self.ties())


def is_ring_form(thing):
    """Whether this is a list of at least two tuples of four."""
    if not isinstance(thing, list) or len(thing) < 2:
        return False
    return all([isinstance(tie, tuple) and len(tie) == 4 for tie in thing])


def ring_fault(run, thing):
    """None where this is a ring of ties of the run; "form", or the place of the first fault, where it is none."""
    if not is_ring_form(thing):
        return "form"
    many = len(run.dealings)
    ties = {tie: True for tie in run.ties()}
    ones = {}
    ahead = thing[-1]
    for place, tie in enumerate(thing):
        # The form first: what stands in the tuples may be anything, which neither == nor a dict is safe with.
        if not has_tie_form(tie, many) or tie not in ties or tie[0] in ones:
            return place
        if not is_number(ahead[1], many) or ahead[1] != tie[0]:
            return place
        ones[tie[0]] = True
        ahead = tie
    return None


def same(run, order):
    """Whether doing the dealings one behind another in this order sees the same and leaves the same versions."""
    dealings = run.dealings
    other = Run(dealings, run.levels, one_by_one(dealings, order))
    # A dealing reads a box once, so sorted reads are alike just where each of them is.
    return sorted(run.seen()) == sorted(other.seen()) and run.engine.stock == other.engine.stock
