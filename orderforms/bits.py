"""Sets of points as numbers: the point x is a member if the bit 2^x is set."""

from orderforms.errors import Refused


def is_integer(value):
    """Return True if the value is an integer and not True or False."""
    return isinstance(value, int) and not isinstance(value, bool)


def is_point(value, n):
    """Return True if the value is an integer from 0 to n - 1, for every value."""
    return is_integer(value) and 0 <= value < n


def is_set(value, n):
    """Return True if the value is a set of points from 0 to n - 1, for every value."""
    return is_integer(value) and value >= 0 and value.bit_length() <= n


def is_ascending(value, n):
    """Return True if the value is a strictly ascending tuple of points from 0 to n - 1, for every value."""
    if not isinstance(value, tuple) or not all([is_point(x, n) for x in value]):
        return False
    return value == members(set_of(value))


def has_each_once(parting, n):
    """Return True if the tuples of points are not empty and each point from 0 to n - 1 is once in them."""
    points = [x for item in parting for x in item]
    return all([len(item) > 0 for item in parting]) and sorted(points) == list(range(n))


def whole(n):
    """Return the set of the points from 0 to n - 1."""
    return (1 << n) - 1


def members(bits):
    """Return the ascending tuple of the members of a set."""
    points = []
    while bits > 0:
        points.append(lowest(bits))
        bits = bits & (bits - 1)
    return tuple(points)


def count(bits):
    """Return the number of the members of a set."""
    return len(members(bits))


def set_of(points):
    """Return the set of a list or tuple of points; each counts once."""
    bits = 0
    for x in points:
        bits = bits | (1 << x)
    return bits


def lowest(bits):
    """Return the least member of a set; raise Refused("empty") if there is none."""
    if bits == 0:
        raise Refused("empty")
    return (bits & -bits).bit_length() - 1


def has(bits, x):
    """Return True if x is a member of the set."""
    return (bits >> x) & 1 == 1


def is_part(one, two):
    """Return True if each member of the first set is one of the second set."""
    return one & two == one


def parts(bits):
    """Generate all sets of members of a set, in ascending order as numbers."""
    part = 0
    while part != bits:
        yield part
        # The borrow of the difference runs through the places outside of the set,
        # so this counts up by 1 in the places of the set alone.
        part = (part - bits) & bits
    yield bits
