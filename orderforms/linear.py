"""Linear orders above an order, as rows of all its points."""

from orderforms.bits import is_integer, set_of, whole
from orderforms.errors import Malformed, Refused
from orderforms.lower import lower_sets
from orderforms.order import Order, check_size, is_renumbering, next_points

MOST_LISTED = 5040


def is_linear(order, row):
    """Return True if the value is a linear order above the order, for every value."""
    if not is_renumbering(row, order.n):
        return False
    return all([stands_before((row,), x, y) for x, y in order.pairs()])


def count_linear(order):
    """Return the number of the linear orders above an order."""
    return ways_behind(order)[0]


def ways_behind(order):
    """Return a dict that has for each lower set the number of the rows in which the other points may follow it."""
    below = order.below()
    ways = {}
    for s in reversed(lower_sets(order)):
        following = [ways[s | (1 << x)] for x in next_points(below, s)]
        ways[s] = 1 if s == whole(order.n) else sum(following)
    return ways


def all_linear(order):
    """Return the tuple of all linear orders above an order, ascending."""
    if count_linear(order) > MOST_LISTED:
        raise Refused("large")
    below = order.below()
    rows = [()]
    for _ in range(order.n):
        rows = [row + (x,) for row in rows for x in next_points(below, set_of(row))]
    return tuple(rows)


def linear_at(order, k):
    """Return the linear order with the rank k."""
    ways = ways_behind(order)
    if not is_integer(k) or k < 0 or k >= ways[0]:
        raise Refused("rank")
    below = order.below()
    row = ()
    s = 0
    while len(row) < order.n:
        for x in next_points(below, s):
            many = ways[s | (1 << x)]
            if k < many:
                break
            k = k - many
        row = row + (x,)
        s = s | (1 << x)
    return row


def rank_of_linear(order, row):
    """Return the number of the linear orders before this one."""
    if not is_linear(order, row):
        raise Malformed("the row is no linear order above the order")
    ways = ways_behind(order)
    below = order.below()
    rank = 0
    s = 0
    for x in row:
        rank = rank + sum([ways[s | (1 << y)] for y in next_points(below, s) if y < x])
        s = s | (1 << x)
    return rank


def count_before(order, x, y):
    """Return the number of the linear orders in which x stands before y."""
    if order.at_most(y, x):
        return 0
    return count_linear(Order(order.n, order.pairs() + ((x, y),)))


def common_part(rows):
    """Return the order in which x is below y if it stands before it in each row."""
    if not isinstance(rows, tuple) or len(rows) == 0 or not isinstance(rows[0], tuple):
        raise Malformed("the value is no tuple of at least one row")
    n = len(rows[0])
    if not all([is_renumbering(row, n) for row in rows]):
        raise Malformed("an item is no row of the same points")
    check_size(n)
    points = range(n)
    return Order(n, [(x, y) for x in points for y in points if stands_before(rows, x, y)])


def stands_before(rows, x, y):
    """Return True if x stands before y in each row."""
    return all([row.index(x) < row.index(y) for row in rows])
