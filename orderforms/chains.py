"""Largest antichains and longest chains, with partings into chains and antichains."""

from orderforms.bits import has, has_each_once, is_ascending, lowest, members, set_of, whole
from orderforms.matching import largest_matching, least_cover


def is_chain(order, points):
    """Return True if the value is an ascending tuple of points any two of which are related, for every value."""
    return is_ascending(points, order.n) and order.is_chain(set_of(points))


def is_antichain(order, points):
    """Return True if the value is an ascending tuple of points no two of which are related, for every value."""
    return is_ascending(points, order.n) and order.is_antichain(set_of(points))


def width(order):
    """Return the number of points of a largest antichain."""
    return len(largest_antichain(order))


def largest_antichain(order):
    """Return the antichain of the points that a least cover has on neither side."""
    matching = largest_matching(order.above, order.n)
    left, right = least_cover(order.above, order.n, matching)
    return members(whole(order.n) & ~(left | right))


def chain_parting(order):
    """Return a parting into as few chains as can be, in ascending order of their least points."""
    matching = largest_matching(order.above, order.n)
    feet = [x for x in range(order.n) if x not in matching]
    return tuple(sorted([matched_chain(matching, x) for x in feet]))


def matched_chain(matching, x):
    """Return the ascending tuple of the points that the matching puts one above the other, from x on."""
    points = []
    while x != -1:
        points.append(x)
        x = matching[x]
    return tuple(sorted(points))


def levels(order):
    """Return the list of the sets of the points of one rank, in ascending order of the rank."""
    below = order.below()
    rest = whole(order.n)
    found = []
    while rest > 0:
        level = set_of([x for x in members(rest) if below[x] & rest == 0])
        found.append(level)
        rest = rest & ~level
    return found


def rank_of(order, x):
    """Return the number of points of a longest chain that ends with x, less 1."""
    return [has(level, x) for level in levels(order)].index(True)


def length(order):
    """Return the number of points of a longest chain."""
    return len(levels(order))


def longest_chain(order):
    """Return the ascending tuple of the points of a chain with a point of each rank."""
    below = order.below()
    near = whole(order.n)
    points = []
    for level in reversed(levels(order)):
        # A point has a point of each lesser rank below it, so this is never empty.
        x = lowest(level & near)
        points.append(x)
        near = below[x]
    return tuple(sorted(points))


def antichain_parting(order):
    """Return the tuple of the antichains of the points of one rank, in ascending order of the rank."""
    return tuple([members(level) for level in levels(order)])


def is_chain_parting(order, parting):
    """Return True if the value is a parting into chains, for every value."""
    if not isinstance(parting, tuple) or not all([is_chain(order, item) for item in parting]):
        return False
    return has_each_once(parting, order.n)


def is_antichain_parting(order, parting):
    """Return True if the value is a parting into antichains, for every value."""
    if not isinstance(parting, tuple) or not all([is_antichain(order, item) for item in parting]):
        return False
    return has_each_once(parting, order.n)
