"""Ties between dealings by the versions they put in and saw, the rings of them, and orders by them."""

from asifalone.dealings import is_box, is_number, is_one_of

KINDS = ("over", "from", "past")


def ties_of_writers(box, versions):
    """The ties "over" of a box."""
    told = []
    for place, other in enumerate(versions):
        # The first version is nobody's.
        told.extend([(one, other, "over", box) for one in versions[1:place]])
    return told


def ties_of_reader(box, versions, reader, seen):
    """The ties "from" and "past" of a box and one that read it and saw the version at this place."""
    told = []
    for place, writer in enumerate(versions):
        if place == 0 or writer == reader:
            continue
        if place <= seen:
            told.append((writer, reader, "from", box))
        else:
            told.append((reader, writer, "past", box))
    return told


def all_ties(stock, views):
    """All ties, sorted: stock holds the versions of each box, views of each dealing the places that it saw."""
    told = []
    for box in stock:
        told.extend(ties_of_writers(box, stock[box]))
    for reader, places in enumerate(views):
        for box, seen in places.items():
            if box in stock:
                told.extend(ties_of_reader(box, stock[box], reader, seen))
    return sorted(told)


def has_tie_form(thing, many):
    """Whether a tuple of four could be a tie of so many dealings."""
    one, other, kind, box = thing
    return is_number(one, many) and is_number(other, many) and is_one_of(kind, KINDS) and is_box(box)


def first_ties(ties):
    """For each one a dict: for each other to which it has ties, the first of them."""
    told = {}
    for tie in ties:
        others = told.setdefault(tie[0], {})
        others.setdefault(tie[1], tie)
    return told


def ring_closed_by(came, last):
    """The ring that closes with this tie: came holds the tie by which each number was reached."""
    ring = [last]
    while ring[-1][0] != last[1]:
        ring.append(came[ring[-1][0]])
    return ring[::-1]


def ring_from(links, start):
    """A ring with fewest ties in which start stands as one, None where there is none."""
    came = {}
    queue = [start]
    turn = 0
    while turn < len(queue):
        one = queue[turn]
        turn += 1
        for other, tie in links.get(one, {}).items():
            if other == start:
                return ring_closed_by(came, tie)
            if other not in came:
                came[other] = tie
                queue.append(other)
    return None


def shortest_ring(ties, starts):
    """A ring with fewest ties, of those in which some of these starts stands as one; None where there is none."""
    links = first_ties(ties)
    best = None
    for start in starts:
        ring = ring_from(links, start)
        if ring is not None and (best is None or len(ring) < len(best)):
            best = ring
            # No ring has fewer than two ties.
            if len(best) == 2:
                break
    return best


def first_order(many, ties):
    """The first order of so many numbers, as lists go, with each tie's one ahead of its other; None at a ring."""
    links = first_ties(ties)
    waits = [0] * many
    for one in links:
        for other in links[one]:
            waits[other] += 1
    left = list(range(many))
    order = []
    while left:
        ready = [number for number in left if waits[number] == 0]
        if not ready:
            return None
        order.append(ready[0])
        left.remove(ready[0])
        for other in links.get(ready[0], {}):
            waits[other] -= 1
    return order
