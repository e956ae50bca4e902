"""Orders made of a number, of other orders, of sets or of divisors."""

from orderforms.bits import is_integer, is_part
from orderforms.errors import Malformed
from orderforms.order import Order, check_size

MOST_DIVIDED = 1000000


def chain(n):
    """Return the order of n points in which x is below y if x is less than y."""
    check_size(n)
    return Order(n, [(x, x + 1) for x in range(n - 1)])


def antichain(n):
    """Return the order of n points in which no point is below another one."""
    return Order(n, ())


def parallel(a, b):
    """Return the order with the relations of both, the points of b numbered behind those of a."""
    return lexicographic_sum(antichain(2), (a, b))


def ordinal(a, b):
    """Return the order with the relations of both, in which each point of a is below each one of b."""
    return lexicographic_sum(chain(2), (a, b))


def product(a, b):
    """Return the order of the pairs of a point of a and a point of b, ordered in both parts."""
    pairs = [(x, y) for x in range(a.n) for y in range(b.n)]
    return order_of(pairs, lambda low, high: low != high and a.at_most(low[0], high[0]) and b.at_most(low[1], high[1]))


def lexicographic(a, b):
    """Return the order of the pairs of a point of a and a point of b, the first parts going first."""
    return lexicographic_sum(a, [b] * a.n)


def lexicographic_sum(a, orders):
    """Return the order of the points of all the orders, those of different ones related as a says."""
    check_row(orders)
    if len(orders) != a.n:
        raise Malformed("there are not as many orders as points")
    places = [(x, y) for x in range(a.n) for y in range(orders[x].n)]
    return order_of(places, lambda low, high: is_below_in_sum(a, orders, low, high))


def is_below_in_sum(a, orders, low, high):
    """Return True if one place (order, point) of a lexicographic sum is below another one."""
    if low[0] == high[0]:
        return orders[low[0]].less(low[1], high[1])
    return a.less(low[0], high[0])


def common_part(orders):
    """Return the order in which x is below y if it is so in all the orders."""
    check_row(orders)
    if len(orders) == 0:
        raise Malformed("there is no order")
    first = orders[0]
    if any([order.n != first.n for order in orders]):
        raise Malformed("the numbers of points differ")
    return Order(first.n, [(x, y) for x, y in first.pairs() if all([order.less(x, y) for order in orders])])


def by_inclusion(sets):
    """Return the order of the places of a list of sets in which a proper part is below."""
    check_row(sets)
    if not all([is_integer(item) and item >= 0 for item in sets]):
        raise Malformed("an item is no set")
    return order_of(sets, lambda low, high: low != high and is_part(low, high))


def divisor_order(k):
    """Return the order of the positive divisors of k, ascending, in which a proper divisor is below."""
    if not is_integer(k) or k < 1 or k > MOST_DIVIDED:
        raise Malformed("the number is no integer from 1 to 1000000")
    return order_of(divisors(k), lambda low, high: low != high and high % low == 0)


def divisors(k):
    """Return the ascending list of the positive divisors of an integer from 1 on."""
    small = []
    d = 1
    while d * d <= k:
        if k % d == 0:
            small.append(d)
        d = d + 1
    great = [k // low for low in reversed(small) if low * low != k]
    return small + great


def keeps(one, two):
    """Return True if both have equally many points and each relation of the second is one of the first."""
    return one.n == two.n and all([is_part(two.above[x], one.above[x]) for x in range(one.n)])


def united(one, two):
    """Return the least order that keeps both; raise Refused("cycle") if there is none."""
    if one.n != two.n:
        raise Malformed("the numbers of points differ")
    return Order(one.n, one.pairs() + two.pairs())


def check_row(value):
    """Raise Malformed if the value is neither list nor tuple."""
    if not isinstance(value, (list, tuple)):
        raise Malformed("the value is no list or tuple")


def order_of(items, is_below):
    """Return the order of the places of a row, related as is_below says of the items there."""
    # The size is checked first, so that a long row is refused without comparing its items.
    check_size(len(items))
    places = range(len(items))
    return Order(len(items), [(x, y) for x in places for y in places if is_below(items[x], items[y])])
