"""Rows along arrows: who is ahead of whom, the least row and the greatest, how many there are.

In all of these ahead tells, for each GUEST, the GUESTS that have an ARROW to
it; left is an ascending tuple of GUESTS that are still to come.
"""

from math import factorial


def ready(ahead, left):
    """The list of those of left that can come next: all from whom an ARROW goes to them have come."""
    return [guest for guest in left if not any([first in left for first in ahead[guest]])]


def but(left, guest):
    """Those of left that are still to come behind the GUEST."""
    return tuple([own for own in left if own != guest])


def least_row(ahead, left):
    """The least row of left along ARROWS; one that ends too early if these lead back to where they began."""
    return _row_by(ahead, left, 0)


def greatest_row(ahead, left):
    """The greatest row of left along ARROWS, as least_row."""
    return _row_by(ahead, left, -1)


def all_ahead(ahead, guest):
    """The ascending list of the GUESTS from whom one comes to this one along ARROWS."""
    found = []
    near = list(ahead[guest])
    while near:
        first = near.pop()
        if first not in found:
            found.append(first)
            near.extend(ahead[first])
    return sorted(found)


def all_behind(ahead, guest):
    """The ascending list of the GUESTS to whom one comes from this one along ARROWS."""
    return [own for own in range(len(ahead)) if guest in all_ahead(ahead, own)]


def sizes_among(ahead, left):
    """The dict that tells, for each of left, how many of left are it or behind it.

    Whoever is ahead of one of left must be of left, too.
    """
    sizes = {guest: 0 for guest in left}
    for guest in left:
        for own in [guest] + all_ahead(ahead, guest):
            sizes[own] += 1
    return sizes


class Ways:
    """How many rows along ARROWS there are of those who are still to come."""

    def __init__(self, ahead, left, branching):
        """Left are all who come; branching is whether it is sure that no two ARROWS go to one GUEST."""
        self.ahead = ahead
        self.sizes = sizes_among(ahead, left) if branching else None
        self.known = {(): 1}

    def many(self, left):
        """How many rows of left there are; whoever is not of left has come, or never comes."""
        if self.sizes is None:
            return self._summed(left)
        return _many_branching(self.sizes, left)

    def _summed(self, left):
        """As many, told by who comes next; () alone ends a row, so a ring has none."""
        if left not in self.known:
            self.known[left] = sum([self._summed(but(left, guest)) for guest in ready(self.ahead, left)])
        return self.known[left]


def _row_by(ahead, left, at):
    """The row of left in which each next one is that at this place of those who can come."""
    row = []
    can = ready(ahead, left)
    while can:
        row.append(can[at])
        left = but(left, can[at])
        can = ready(ahead, left)
    return tuple(row)


def _many_branching(sizes, left):
    """How many rows of left there are if no two ARROWS go to one GUEST."""
    # One row in as many as its SIZE has a GUEST ahead of all who are behind
    # it, whatever holds for the others.
    divisor = 1
    for guest in left:
        divisor = divisor * sizes[guest]
    return factorial(len(left)) // divisor
