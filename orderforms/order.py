"""Finite orders of at most 10 points, and their texts."""

from orderforms.bits import has, is_integer, is_part, is_point, is_set, members, set_of
from orderforms.errors import Fault, Malformed, NoText, Refused

MOST_POINTS = 10

# The first word of a text of an order, at the index of its number of points.
HEADS = ("0:", "1:", "2:", "3:", "4:", "5:", "6:", "7:", "8:", "9:", "10:")

DIGITS = "0123456789"


class Order:
    """An order of the points from 0 to n - 1; `above` has the set of the points above each point."""

    def __init__(self, n, pairs):
        check_size(n)
        check_pairs(n, pairs)
        above = closed(n, pairs)
        if any([has(above[x], x) for x in range(n)]):
            raise Refused("cycle")
        self.n = n
        self.above = above

    def __len__(self):
        return len(self.above)

    def __eq__(self, other):
        return isinstance(other, Order) and self.n == other.n and self.above == other.above

    def __str__(self):
        covers = [f"{x}<{y}" for x, y in self.covers()]
        return " ".join([f"{self.n}:", *covers])

    def size(self):
        """Return the number of points."""
        return self.n

    def below(self):
        """Return the tuple of the sets of the points below each point."""
        return turned_sets(self.above)

    def less(self, x, y):
        """Return True if x is below y."""
        return has(self.above[x], y)

    def at_most(self, x, y):
        """Return True if x is below y or equal to it."""
        return x == y or self.less(x, y)

    def related(self, x, y):
        """Return True if the points are equal or one is below the other."""
        return x == y or self.less(x, y) or self.less(y, x)

    def pairs(self):
        """Return the ascending tuple of all pairs (x, y) with x below y."""
        return related_pairs(self.above)

    def covers(self):
        """Return the ascending tuple of the pairs (x, y) with x below y and no point between."""
        return cover_pairs(self.above)

    def minimal(self):
        """Return the set of the points that no point is below."""
        below = self.below()
        return set_of([x for x in range(self.n) if below[x] == 0])

    def maximal(self):
        """Return the set of the points that no point is above."""
        return set_of([x for x in range(self.n) if self.above[x] == 0])

    def turned(self):
        """Return the order in which x is below y if y is below x in this one."""
        return Order(self.n, [(y, x) for x, y in self.pairs()])

    def part(self, bits):
        """Return the order of the points of a set, numbered in ascending order."""
        if not is_set(bits, self.n):
            raise Malformed("no set of points of the order")
        points = members(bits)
        places = range(len(points))
        return Order(len(points), [(x, y) for x in places for y in places if self.less(points[x], points[y])])

    def renumbered(self, images):
        """Return the order in which the point x has the number images[x]."""
        if not is_renumbering(images, self.n):
            raise Malformed("no tuple of all points, each once")
        return Order(self.n, [(images[x], images[y]) for x, y in self.pairs()])

    def is_chain(self, bits):
        """Return True if any two members of the set are related."""
        points = members(bits)
        return all([self.related(x, y) for x in points for y in points])

    def is_antichain(self, bits):
        """Return True if no two unlike members of the set are related."""
        return all([self.above[x] & bits == 0 for x in members(bits)])


def check_size(n):
    """Raise the error for a number of points that an order cannot have."""
    if not is_integer(n) or n < 0:
        raise Malformed("the number of points is no integer from 0 on")
    if n > MOST_POINTS:
        raise Refused("large")


def check_pairs(n, pairs):
    """Raise Malformed if the pairs are no list or tuple of pairs of points."""
    if not isinstance(pairs, (list, tuple)):
        raise Malformed("the pairs are no list or tuple")
    if not all([is_pair(item, n) for item in pairs]):
        raise Malformed("an item of the pairs is no tuple of two points")


def is_pair(value, n):
    """Return True if the value is a tuple of two points from 0 to n - 1, for every value."""
    return isinstance(value, tuple) and len(value) == 2 and is_point(value[0], n) and is_point(value[1], n)


def is_renumbering(value, n):
    """Return True if the value is a tuple of all points from 0 to n - 1, each once, for every value."""
    if not isinstance(value, tuple) or not all([is_point(x, n) for x in value]):
        return False
    return sorted(value) == list(range(n))


def closed(n, pairs):
    """Return the sets above each point in the least relation that has the pairs and is transitive."""
    above = [0] * n
    for x, y in pairs:
        above[x] = above[x] | (1 << y)
    for middle in range(n):
        for x in range(n):
            if has(above[x], middle):
                above[x] = above[x] | above[middle]
    return tuple(above)


def turned_sets(above):
    """Return the tuple of the sets of the points below each point, given those of the points above."""
    points = range(len(above))
    return tuple([set_of([x for x in points if has(above[x], y)]) for y in points])


def related_pairs(above):
    """Return the ascending tuple of the pairs (x, y) with x below y, given the sets above each point."""
    return tuple([(x, y) for x in range(len(above)) for y in members(above[x])])


def cover_pairs(above):
    """Return the ascending tuple of the covers, given the sets above each point."""
    below = turned_sets(above)
    return tuple([(x, y) for x, y in related_pairs(above) if above[x] & below[y] == 0])


def next_points(below, s):
    """Return the ascending list of the points that may follow a lower set, given the sets below each point."""
    return [x for x, bits in enumerate(below) if not has(s, x) and is_part(bits, s)]


def read_order(text):
    """Return the order with this text; raise NoText(0) if there is none, for every value."""
    if not isinstance(text, str):
        raise NoText(0)
    words = text.split(" ")
    if words[0] not in HEADS:
        raise NoText(0)
    n = HEADS.index(words[0])
    pairs = [read_pair(word) for word in words[1:]]
    try:
        order = Order(n, pairs)
    except Fault:
        raise NoText(0) from None
    # Pairs that are no covers, come twice or stand in another order make an order, too,
    # but it has another text.
    if str(order) != text:
        raise NoText(0)
    return order


def read_pair(word):
    """Return the pair of points that a word of a text stands for; raise NoText(0) if there is none."""
    if len(word) != 3 or word[0] not in DIGITS or word[1] != "<" or word[2] not in DIGITS:
        raise NoText(0)
    return (DIGITS.index(word[0]), DIGITS.index(word[2]))
