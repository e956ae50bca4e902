"""Functions on the intervals of an order: the incidence algebra."""

from orderforms.bits import is_integer
from orderforms.errors import Malformed, Refused


class Incidence:
    """A function on the intervals of an order; `rows` has the value at x, y in the row x at the index y."""

    def __init__(self, order, rows):
        check_rows(order, rows)
        self.order = order
        self.rows = tuple([tuple(row) for row in rows])

    def __eq__(self, other):
        return isinstance(other, Incidence) and self.order == other.order and self.rows == other.rows

    def __add__(self, other):
        check_orders(self, other)
        return Incidence(self.order, [[x + y for x, y in zip(one, two)] for one, two in zip(self.rows, other.rows)])

    def __sub__(self, other):
        return self + -other

    def __mul__(self, other):
        check_orders(self, other)
        columns = list(zip(*other.rows))
        # Outside of the interval one of the two factors is 0.
        return Incidence(self.order, [[sum_of_products(row, column) for column in columns] for row in self.rows])

    def __neg__(self):
        return self.scaled(-1)

    def value(self, x, y):
        """Return the value at x and y, 0 if x is not at most y."""
        return self.rows[x][y]

    def scaled(self, k):
        """Return the function with k times the values."""
        return Incidence(self.order, [[k * item for item in row] for row in self.rows])

    def power(self, k):
        """Return the product of k times this function."""
        result = delta(self.order)
        base = self
        while k > 0:
            if (k & 1) == 1:
                result = result * base
            base = base * base
            k = k >> 1
        return result

    def inverse(self):
        """Return the function whose product with this one is delta; raise Refused("inverse") if there is none."""
        places = range(self.order.n)
        if not all([self.rows[x][x] in (1, -1) for x in places]):
            raise Refused("inverse")
        signs = Incidence(self.order, [[self.rows[x][x] if x == y else 0 for y in places] for x in places])
        unit = delta(self.order)
        # The function is the product of its signs and unit - rest, and rest to the power n is 0,
        # as its values at equal points are 0; so the inverse of unit - rest is unit + rest + rest^2 + ...
        rest = unit - signs * self
        result = unit
        for _ in places:
            result = unit + rest * result
        return result * signs

    def sums(self, values):
        """Return the tuple that has at y the sum of values[x] times the value at x and y, over all x."""
        return tuple([sum_of_products(values, column) for column in zip(*self.rows)])


def check_rows(order, rows):
    """Raise Malformed if the rows do not have the form of a function on the intervals of the order."""
    if not is_row(rows, order.n) or not all([is_row(row, order.n) for row in rows]):
        raise Malformed("the rows are not as many lists or tuples of as many values as points")
    if not all([is_integer(item) for row in rows for item in row]):
        raise Malformed("a value is no integer")
    places = range(order.n)
    if any([rows[x][y] != 0 and not order.at_most(x, y) for x in places for y in places]):
        raise Malformed("a value outside of the intervals is not 0")


def is_row(value, n):
    """Return True if the value is a list or tuple of n items."""
    return isinstance(value, (list, tuple)) and len(value) == n


def check_orders(f, g):
    """Raise Malformed if the functions are not ones of equal orders."""
    if f.order != g.order:
        raise Malformed("the orders differ")


def sum_of_products(one, two):
    """Return the sum of the products of the items at equal places of two rows."""
    return sum([x * y for x, y in zip(one, two)])


def delta(order):
    """Return the function that is 1 at equal points and 0 otherwise."""
    places = range(order.n)
    return Incidence(order, [[1 if x == y else 0 for y in places] for x in places])


def zeta(order):
    """Return the function that is 1 at each interval."""
    places = range(order.n)
    return Incidence(order, [[1 if order.at_most(x, y) else 0 for y in places] for x in places])


def moebius(order):
    """Return the inverse of zeta."""
    return zeta(order).inverse()


def chains_between(order, x, y, count):
    """Return the number of chains of `count` points with x the least and y the greatest one."""
    strict = zeta(order) - delta(order)
    return strict.power(count - 1).value(x, y)
