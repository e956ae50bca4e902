"""The checker of papers; it decides by the definitions alone and uses nothing that finds papers."""

from orderforms.bits import has_each_once, is_ascending, is_integer, is_part, is_point, is_set, members, set_of, whole
from orderforms.errors import Refused
from orderforms.order import is_renumbering, next_points

MOST_CHECKED = 6

# No order of at most MOST_CHECKED points has a greater dimension.
MOST_ROWS = 3


def takes_width(order, paper):
    """Return True if the value is a paper of the width of the order, for every value."""
    if not is_paper(paper, "width", 3) or not are_as_many(paper[1], paper[2], order.n):
        return False
    return order.is_antichain(set_of(paper[1])) and all([order.is_chain(set_of(part)) for part in paper[2]])


def takes_length(order, paper):
    """Return True if the value is a paper of the length of the order, for every value."""
    if not is_paper(paper, "length", 3) or not are_as_many(paper[1], paper[2], order.n):
        return False
    return order.is_chain(set_of(paper[1])) and all([order.is_antichain(set_of(part)) for part in paper[2]])


def takes_pair(a, b, paper):
    """Return True if the value is a paper of two orders, for every value."""
    if is_paper(paper, "map", 2):
        return is_renumbering(paper[1], a.n) and a.renumbered(paper[1]) == b
    if not is_paper(paper, "none", 2) or not isinstance(paper[1], tuple):
        return False
    if a.n != b.n:
        return paper[1] == ()
    return has_all_levels(a, b, paper[1])


def takes_lattice(lattice, paper):
    """Return True if the value is a paper of the lattice, for every value."""
    if is_paper(paper, "lower", 3):
        return are_images(lattice, paper[1], paper[2])
    return is_paper(paper, "failure", 2) and is_failure(lattice, paper[1])


def takes_dimension(order, paper):
    """Return True if the value is a paper of the dimension of the order, for every value."""
    if order.n > MOST_CHECKED:
        raise Refused("large")
    if not is_paper(paper, "dimension", 2) or not is_realizing(order, paper[1]):
        return False
    # A realizer has at least one row.
    return len(paper[1]) == 1 or not has_realizer(order, min(len(paper[1]) - 1, MOST_ROWS))


def is_paper(value, word, size):
    """Return True if the value is a tuple of so many items that begins with the word, for every value."""
    return isinstance(value, tuple) and len(value) == size and value[0] == word


def are_as_many(points, parting, n):
    """Return True if the values are ascending points and a parting into as many sets, for every two values."""
    if not isinstance(parting, tuple) or not all([is_ascending(part, n) for part in parting]):
        return False
    return has_each_once(parting, n) and is_ascending(points, n) and len(points) == len(parting)


def has_all_levels(a, b, levels):
    """Return True if the tuple has all levels of partial maps, up to the first empty one, for every tuple."""
    if len(levels) > a.n:
        return False
    maps = [()]
    for k, level in enumerate(levels):
        maps = next_maps(a, b, maps)
        if not is_row_of_maps(level, b.n) or level != tuple(maps):
            return False
        if len(maps) == 0:
            return k + 1 == len(levels)
    return False


def next_maps(a, b, maps):
    """Return the list of the partial maps of one more point that begin with one of these, which are not whole."""
    below = b.below()
    return [images + (y,) for images in maps for y in next_images(a, b, below, images)]


def next_images(a, b, below, images):
    """Return the images that the next point may have behind those of a partial map, given the sets below in b."""
    x = len(images)
    left = whole(b.n)
    for z, y in enumerate(images):
        if a.less(z, x):
            left = left & b.above[y]
        elif a.less(x, z):
            left = left & below[y]
        else:
            left = left & ~(b.above[y] | below[y] | (1 << y))
    return members(left)


def is_row_of_maps(value, n):
    """Return True if the value is a tuple of tuples of points from 0 to n - 1, for every value."""
    if not isinstance(value, tuple) or not all([isinstance(images, tuple) for images in value]):
        return False
    return all([is_point(y, n) for images in value for y in images])


def are_images(lattice, n, images):
    """Return True if the values are a number and images that show that a lattice is distributive, for all values."""
    if not is_integer(n) or n < 0 or not isinstance(images, tuple) or len(images) != len(lattice):
        return False
    if not all([is_set(bits, n) for bits in images]) or len(set(images)) != len(images):
        return False
    return all([
        images[lattice.joined(x, y)] == one | two and images[lattice.met(x, y)] == one & two
        for x, one in enumerate(images) for y, two in enumerate(images)
    ])


def is_failure(lattice, triple):
    """Return True if the value is a triple of members that shows that the lattice is not distributive."""
    if not isinstance(triple, tuple) or len(triple) != 3 or not all([is_point(x, len(lattice)) for x in triple]):
        return False
    x, y, z = triple
    return lattice.met(x, lattice.joined(y, z)) != lattice.joined(lattice.met(x, y), lattice.met(x, z))


def is_realizing(order, rows):
    """Return True if the value is a tuple of linear orders whose common part is the order, for every value."""
    if not isinstance(rows, tuple) or len(rows) == 0 or not all([is_renumbering(row, order.n) for row in rows]):
        return False
    kept = set_of([place_of(order, x, y) for x, y in order.pairs()])
    turned = unrelated_places(order)
    for row in rows:
        if not is_part(kept, places_in(order, row)):
            return False
        turned = turned & ~places_in(order, row)
    return turned == 0


def place_of(order, x, y):
    """Return the number that stands for a pair of points."""
    return x * order.n + y


def unrelated_places(order):
    """Return the set of the numbers of the pairs of points that are not comparable."""
    points = range(order.n)
    return set_of([place_of(order, x, y) for x in points for y in points if not order.related(x, y)])


def places_in(order, row):
    """Return the set of the numbers of the pairs (x, y) with x before y in a row of all points."""
    return set_of([place_of(order, x, y) for k, x in enumerate(row) for y in row[k + 1:]])


def has_realizer(order, size):
    """Return True if the order has a realizer of so many linear orders, at least one, also equal ones."""
    below = order.below()
    rows = [()]
    for _ in range(order.n):
        rows = [row + (x,) for row in rows for x in next_points(below, set_of(row))]
    return some_hold([places_in(order, row) for row in rows], unrelated_places(order), size)


def some_hold(sets, wanted, size):
    """Return True if so many of the sets, also equal ones, hold together all wanted members."""
    if size == 0:
        return wanted == 0
    for bits in sets:
        if some_hold(sets, wanted & ~bits, size - 1):
            return True
    return False
