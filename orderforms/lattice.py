"""Finite lattices of at most 64 members, and those of the lower sets of orders."""

from orderforms.bits import has, is_integer, is_part, set_of
from orderforms.build import order_of
from orderforms.errors import Malformed, Refused
from orderforms.lower import lower_sets
from orderforms.order import MOST_POINTS, check_pairs, closed, cover_pairs, related_pairs, turned_sets

MOST_MEMBERS = 64


class Lattice:
    """A lattice of the members from 0 to n - 1; `above` has the set of the members above each member."""

    def __init__(self, n, pairs):
        check_members(n)
        check_pairs(n, pairs)
        above = closed(n, pairs)
        if any([has(above[x], x) for x in range(n)]):
            raise Refused("cycle")
        if n == 0:
            raise Refused("lattice")
        self.above = above
        self.joins = bound_table(above)
        self.meets = bound_table(turned_sets(above))

    def __len__(self):
        return len(self.above)

    def __eq__(self, other):
        return isinstance(other, Lattice) and self.above == other.above

    def at_most(self, x, y):
        """Return True if x is below y or equal to it."""
        return x == y or has(self.above[x], y)

    def joined(self, x, y):
        """Return the least member that is at least x and y."""
        return self.joins[x][y]

    def met(self, x, y):
        """Return the greatest member that is at most x and y."""
        return self.meets[x][y]

    def least(self):
        """Return the member that no member is below."""
        return turned_sets(self.above).index(0)

    def greatest(self):
        """Return the member that no member is above."""
        return self.above.index(0)

    def covers(self):
        """Return the ascending tuple of the pairs (x, y) such that y covers x."""
        return cover_pairs(self.above)

    def join_irreducibles(self):
        """Return the ascending tuple of the members that cover exactly one member."""
        highs = [y for x, y in self.covers()]
        return tuple([x for x in range(len(self)) if highs.count(x) == 1])

    def meet_irreducibles(self):
        """Return the ascending tuple of the members that exactly one member covers."""
        lows = [x for x, y in self.covers()]
        return tuple([x for x in range(len(self)) if lows.count(x) == 1])

    def complements(self, x):
        """Return the ascending tuple of the members with the greatest join and the least meet with x."""
        ends = (self.greatest(), self.least())
        return tuple([y for y in range(len(self)) if (self.joined(x, y), self.met(x, y)) == ends])

    def distributive_failure(self):
        """Return the least triple for which the equation of distributivity does not hold, or None."""
        places = range(len(self))
        for x in places:
            meet = self.meets[x]
            for y in places:
                for z in places:
                    if meet[self.joins[y][z]] != self.joins[meet[y]][meet[z]]:
                        return (x, y, z)
        return None

    def modular_failure(self):
        """Return the least triple for which the equation of modularity does not hold, or None."""
        places = range(len(self))
        for x in places:
            join = self.joins[x]
            for y in places:
                for z in places:
                    if self.at_most(x, z) and join[self.meets[y][z]] != self.meets[join[y]][z]:
                        return (x, y, z)
        return None

    def is_distributive(self):
        """Return True if the lattice is distributive."""
        return self.distributive_failure() is None

    def is_modular(self):
        """Return True if the lattice is modular."""
        return self.modular_failure() is None

    def turned(self):
        """Return the lattice in which x is below y if y is below x in this one."""
        return Lattice(len(self), [(y, x) for x, y in related_pairs(self.above)])


def check_members(n):
    """Raise the error for a number of members that is too large or no number."""
    if not is_integer(n) or n < 0:
        raise Malformed("the number of members is no integer from 0 on")
    if n > MOST_MEMBERS:
        raise Refused("large")


def bound_table(above):
    """Return the rows of the least members that are at least x and y; raise Refused("lattice") if one is missing."""
    reaches = [bits | (1 << x) for x, bits in enumerate(above)]
    # A common upper bound is the least one exactly if all of them are at least it.
    least = {reach: x for x, reach in enumerate(reaches)}
    if not all([one & two in least for one in reaches for two in reaches]):
        raise Refused("lattice")
    return tuple([tuple([least[one & two] for two in reaches]) for one in reaches])


def lattice_by(items, is_at_most):
    """Return the lattice of the places of a row of unlike items, ordered as is_at_most says of the items there."""
    # The size is checked first, so that a long row is refused without comparing its items.
    check_members(len(items))
    places = range(len(items))
    return Lattice(len(items), [(x, y) for x in places for y in places if x != y and is_at_most(items[x], items[y])])


def lattice_of(order):
    """Return the lattice of the lower sets of an order, numbered in their order."""
    return lattice_by(lower_sets(order), is_part)


def lattice_product(a, b):
    """Return the lattice of the pairs of a member of a and a member of b, ordered in both parts."""
    pairs = [(x, y) for x in range(len(a)) for y in range(len(b))]
    return lattice_by(pairs, lambda low, high: a.at_most(low[0], high[0]) and b.at_most(low[1], high[1]))


def irreducible_order(lattice):
    """Return the order of the join-irreducible members, numbered from 0 on."""
    points = lattice.join_irreducibles()
    return order_of(points, lambda low, high: low != high and lattice.at_most(low, high))


def images(lattice):
    """Return, for each member of a distributive lattice, the set of the join-irreducible members at most it."""
    if not lattice.is_distributive():
        raise Refused("distributive")
    points = lattice.join_irreducibles()
    if len(points) > MOST_POINTS:
        raise Refused("large")
    return tuple([image_of(lattice, points, x) for x in range(len(lattice))])


def image_of(lattice, points, x):
    """Return the set of the places of the points that are at most x."""
    return set_of([place for place, point in enumerate(points) if lattice.at_most(point, x)])
