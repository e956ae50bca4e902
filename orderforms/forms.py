"""One form for all orders that are alike, and all maps between them."""

from orderforms.bits import members, set_of
from orderforms.errors import Refused
from orderforms.order import Order, is_renumbering, next_points

MOST_LISTED = 5040


def least_row(order):
    """Return the least of the rows of the ascending renumberings."""
    row, placings = least_placings(order)
    return row


def form(order):
    """Return the order in which the points below k are those of the item k of the least row."""
    return Order(order.n, [(y, k) for k, bits in enumerate(least_row(order)) for y in members(bits)])


def alike(a, b):
    """Return True if there is a map from a to b."""
    return least_row(a) == least_row(b)


def least_renumberings(order):
    """Return the renumberings with the least row in which twins keep their order, ascending."""
    row, placings = least_placings(order)
    return tuple(sorted([reversed_row(placing) for placing in placings]))


def least_placings(order):
    """Return the least row, and the rows of the points in the order of their numbers that have it, twins ascending."""
    below = order.below()
    # Exchanging twins changes no row, so it is enough to number each twin behind the lesser ones.
    needed = [below[x] | lesser_twins(order, x) for x in range(order.n)]
    row = ()
    placings = [()]
    for _ in range(order.n):
        # Each beginning of an ascending renumbering can be completed, so those with the least item go on.
        found = [
            (item_of(below[x], placing), placing + (x,))
            for placing in placings for x in next_points(needed, set_of(placing))
        ]
        least = min([item for item, placing in found])
        row = row + (least,)
        placings = [placing for item, placing in found if item == least]
    return (row, placings)


def lesser_twins(order, x):
    """Return the set of the twins of a point that are less than it."""
    return set_of([y for points in twin_classes(order) if x in points for y in points if y < x])


def item_of(bits, placing):
    """Return the set of the numbers that the points of a set have by a placing."""
    return set_of([placing.index(y) for y in members(bits)])


def reversed_row(row):
    """Return the tuple that has at the index x the place of x, given a row of all points."""
    return tuple([row.index(x) for x in range(len(row))])


def twin_classes(order):
    """Return the tuple of the classes of points with the same points below and above them, ascending."""
    classes = {}
    for x, near in enumerate(zip(order.below(), order.above)):
        classes.setdefault(near, []).append(x)
    return tuple([tuple(points) for points in classes.values()])


def group_order(order):
    """Return the number of the maps from the order to itself."""
    return len(least_renumberings(order)) * exchange_count(twin_classes(order))


def exchange_count(classes):
    """Return the number of the ways to put the points of each class in an order."""
    many = 1
    for points in classes:
        for place in range(len(points)):
            many = many * (place + 1)
    return many


def find_map(a, b):
    """Return a map from a to b, or None."""
    row, placings = least_placings(a)
    other_row, other_placings = least_placings(b)
    if row != other_row:
        return None
    return followed(reversed_row(placings[0]), other_placings[0])


def followed(one, two):
    """Return the tuple of the items that the second tuple has at the places that the first one tells."""
    return tuple([two[k] for k in one])


def is_map(a, b, f):
    """Return True if the value is a map from a to b, for every value."""
    return is_renumbering(f, a.n) and a.renumbered(f) == b


def all_maps(a, b):
    """Return the tuple of all maps from a to b, ascending."""
    row, placings = least_placings(a)
    other_row, other_placings = least_placings(b)
    if row != other_row:
        return ()
    classes = twin_classes(a)
    if len(placings) * exchange_count(classes) > MOST_LISTED:
        raise Refused("large")
    return tuple(sorted([
        followed(images, other_placings[0])
        for placing in placings for images in with_twins_exchanged(reversed_row(placing), classes)
    ]))


def self_maps(order):
    """Return the tuple of all maps from the order to itself, ascending."""
    return all_maps(order, order)


def with_twins_exchanged(images, classes):
    """Return the list of the renumberings that differ from this one by exchanges of twins, this one as well."""
    rows = [images]
    for points in classes:
        ways = arrangements([images[x] for x in points])
        rows = [with_numbers(row, points, numbers) for row in rows for numbers in ways]
    return rows


def arrangements(items):
    """Return the list of the tuples of all items, each once, in each order."""
    rows = [()]
    for _ in items:
        rows = [row + (item,) for row in rows for item in items if item not in row]
    return rows


def with_numbers(images, points, numbers):
    """Return the renumbering with these new numbers of these points."""
    changed = list(images)
    for x, number in zip(points, numbers):
        changed[x] = number
    return tuple(changed)
