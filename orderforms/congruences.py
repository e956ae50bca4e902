"""Congruences of lattices, told by the least number in the class of each member."""

from orderforms.bits import is_point
from orderforms.errors import Refused
from orderforms.lattice import Lattice
from orderforms.order import check_pairs

MOST_LISTED = 8


def congruence(lattice, pairs):
    """Return the least congruence that puts the two members of each pair into one class."""
    check_pairs(len(lattice), pairs)
    classes = tuple(range(len(lattice)))
    waiting = list(pairs)
    while len(waiting) > 0:
        x, y = waiting.pop()
        # A pair within one class asks for nothing: the pairs that made this class have asked for it already.
        if classes[x] != classes[y]:
            classes = united_classes(classes, x, y)
            waiting.extend(asked_pairs(lattice, x, y))
    return classes


def united_classes(classes, x, y):
    """Return the classes with those of x and y made one."""
    low = min(classes[x], classes[y])
    return tuple([low if k in (classes[x], classes[y]) else k for k in classes])


def asked_pairs(lattice, x, y):
    """Return the list of the pairs that a congruence puts into one class if it does so with x and y."""
    places = range(len(lattice))
    joins = [(lattice.joined(x, z), lattice.joined(y, z)) for z in places]
    return joins + [(lattice.met(x, z), lattice.met(y, z)) for z in places]


def is_congruence(lattice, value):
    """Return True if the value is the tuple of a congruence, for every value."""
    if not isinstance(value, tuple) or len(value) != len(lattice):
        return False
    if not all([is_point(k, len(lattice)) for k in value]):
        return False
    return congruence(lattice, told_pairs(value)) == value


def told_pairs(value):
    """Return the list of the pairs of each member and the number that is told for it."""
    return list(enumerate(value))


def quotient(lattice, value):
    """Return the lattice of the classes, numbered in ascending order of their least numbers."""
    if not is_congruence(lattice, value):
        raise Refused("congruence")
    heads = [x for x, k in enumerate(value) if x == k]
    places = range(len(heads))
    # A class is below another one exactly if their join is this other one.
    return Lattice(len(heads), [
        (x, y) for x in places for y in places
        if x != y and value[lattice.joined(heads[x], heads[y])] == heads[y]
    ])


def congruences(lattice):
    """Return the tuple of all congruences, in ascending order as tuples."""
    if len(lattice) > MOST_LISTED:
        raise Refused("large")
    found = [tuple(range(len(lattice)))]
    for x in range(len(lattice)):
        for y in range(x):
            found = sorted(set(found + [congruence(lattice, told_pairs(one) + [(y, x)]) for one in found]))
    return tuple(found)
