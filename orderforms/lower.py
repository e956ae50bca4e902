"""Lower sets and antichains of an order, as sets of points."""

from orderforms.bits import count, is_part, members, parts, set_of, whole


def is_lower(order, s):
    """Return True if the set holds with each point all points below it."""
    return is_closed(order.below(), s)


def is_closed(below, s):
    """Return True if the set holds the points below each of its points, given the sets of these."""
    return all([is_part(below[x], s) for x in members(s)])


def lower_hull(order, s):
    """Return the set of the points of a set and all points below them."""
    below = order.below()
    hull = s
    for x in members(s):
        hull = hull | below[x]
    return hull


def top_points(order, s):
    """Return the set of the points of a set that are below no other one of its points."""
    return set_of([x for x in members(s) if order.above[x] & s == 0])


def lower_sets(order):
    """Return the tuple of the lower sets, by their numbers of points, then as numbers."""
    below = order.below()
    points = whole(order.n)
    found = [s for s in parts(points) if is_closed(below, s)]
    # The parts come in ascending order, and sorting keeps this order where the counts are equal.
    return tuple(sorted(found, key=count))


def antichains(order):
    """Return the tuple of the top points of the lower sets, in the same order."""
    return tuple([top_points(order, s) for s in lower_sets(order)])
