"""Polynomials by binomials: those of chains and those of maps into chains."""

from orderforms.bits import parts, whole
from orderforms.incidence import delta, zeta
from orderforms.lower import lower_sets, top_points


def binomial(k, j):
    """Return the number k over j, for every integer k and every j from 0 on."""
    if k < 0:
        # Each of the j factors k, k - 1, .. with its sign changed is one of j - k - 1, j - k - 2, ..
        value = binomial(j - k - 1, j)
        return value if j % 2 == 0 else -value
    if j > k:
        return 0
    value = 1
    for i in range(min(j, k - j)):
        # The value is i + 1 times a binomial number before the division, so nothing is lost.
        value = value * (k - i) // (i + 1)
    return value


def value_at(coefficients, k):
    """Return the value of a polynomial by binomials at an integer."""
    return sum([c * binomial(k, j) for j, c in enumerate(coefficients)])


def chain_counts(order):
    """Return the tuple of the numbers of chains of 0, 1, 2, .. points, up to the longest ones."""
    strict = zeta(order) - delta(order)
    found = [1]
    # The item at y is the number of the chains of one size that end with y.
    ends = (1,) * order.n
    while sum(ends) > 0:
        found.append(sum(ends))
        ends = strict.sums(ends)
    return tuple(found)


def chain_polynomial(order):
    """Return the polynomial whose value at k is the number of rows x_0 <= x_1 <= .. <= x_k."""
    return chain_counts(order)[1:]


def order_polynomial(order):
    """Return the polynomial whose value at k is the number of maps to 1, .., k that keep the order."""
    return onto_counts(order, False)


def strict_polynomial(order):
    """Return the polynomial whose value at k is the number of maps to 1, .., k that keep the order strictly."""
    return onto_counts(order, True)


def onto_counts(order, strict):
    """Return the tuple of the numbers of maps, strict ones or not, that take each value from 1 to j, for each j."""
    counts = {0: (1,) + (0,) * order.n}
    for s in lower_sets(order)[1:]:
        # The points with the greatest value are a part of the lower set without which it is a lower set,
        # in a strict map one of its top points alone.
        last = top_points(order, s) if strict else s
        begins = [s & ~part for part in parts(last)]
        # The lower set itself, for no points with this value, has no counts yet.
        rows = [counts[begin] for begin in begins if begin in counts]
        counts[s] = (0,) + tuple([sum([row[j] for row in rows]) for j in range(order.n)])
    return counts[whole(order.n)]
