"""Papers of widths, lengths, pairs of orders, lattices and dimensions, for the checker."""

from orderforms.chains import antichain_parting, chain_parting, largest_antichain, longest_chain
from orderforms.checker import MOST_CHECKED, next_maps
from orderforms.dimension import least_realizer
from orderforms.errors import Refused
from orderforms.forms import find_map
from orderforms.lattice import images

MOST_IN_LEVEL = 2000


def width_paper(order):
    """Return a paper of the width: a largest antichain and a parting into as many chains."""
    return ("width", largest_antichain(order), chain_parting(order))


def length_paper(order):
    """Return a paper of the length: a longest chain and a parting into as many antichains."""
    return ("length", longest_chain(order), antichain_parting(order))


def pair_paper(a, b):
    """Return a paper of two orders: a map, or the levels of partial maps that show that there is none."""
    found = find_map(a, b)
    if found is not None:
        return ("map", found)
    if a.n != b.n:
        return ("none", ())
    return ("none", levels_of(a, b))


def levels_of(a, b):
    """Return the levels of partial maps, up to the first empty one, of orders between which there is no map."""
    levels = []
    maps = [()]
    while len(maps) > 0:
        maps = next_maps(a, b, maps)
        if len(maps) > MOST_IN_LEVEL:
            raise Refused("large")
        levels.append(tuple(maps))
    return tuple(levels)


def lattice_paper(lattice):
    """Return a paper of a lattice: the images of its members, or the least failure."""
    failure = lattice.distributive_failure()
    if failure is not None:
        return ("failure", failure)
    told = images(lattice)
    return ("lower", len(lattice.join_irreducibles()), told)


def dimension_paper(order):
    """Return a paper of the dimension: the least realizer."""
    if order.n > MOST_CHECKED:
        raise Refused("large")
    return ("dimension", least_realizer(order))
