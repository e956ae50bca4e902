"""The dimension of an order, and its least realizer."""

from orderforms.errors import Refused
from orderforms.linear import all_linear, common_part, is_linear, linear_at, stands_before
from orderforms.order import Order

MOST_SEARCHED = 7


def is_realizer(order, rows):
    """Return True if the value is a tuple of linear orders whose common part is the order, for every value."""
    if not isinstance(rows, tuple) or len(rows) == 0:
        return False
    return all([is_linear(order, row) for row in rows]) and common_part(rows) == order


def dimension(order):
    """Return the least number of members of a realizer."""
    return len(least_realizer(order))


def least_realizer(order):
    """Return the least tuple of ascending linear orders that is a realizer with the least number of members."""
    if order.n > MOST_SEARCHED:
        raise Refused("large")
    rows = all_linear(order)
    size = 0
    while True:
        for firsts in choices(rows, size):
            # The last row need not be compared with the first ones: were it less than one of them,
            # the ascending choice with it in its place would have come, and have been told, before.
            last = last_row(order, firsts)
            if last is not None:
                return firsts + (last,)
        size = size + 1


def choices(rows, size):
    """Generate the tuples of so many of the rows, put as the rows are, in ascending order of their places."""
    if size == 0:
        yield ()
        return
    fewer = size - 1
    for place, row in enumerate(rows):
        later = rows[place + 1:]
        for rest in choices(later, fewer):
            yield (row, *rest)


def last_row(order, firsts):
    """Return the least linear order that makes a realizer of the first rows, or None."""
    points = range(order.n)
    turned = [
        (y, x) for x in points for y in points
        if not order.related(x, y) and stands_before(firsts, x, y)
    ]
    try:
        united = Order(order.n, order.pairs() + tuple(turned))
    except Refused:
        return None
    return linear_at(united, 0)
