"""What several tests need: odd values, orders to try, and checks of errors and of names."""

import ast
import importlib
import inspect
import itertools
import pathlib

from orderforms.console import Console
from orderforms.incidence import Incidence
from orderforms.lattice import Lattice
from orderforms.order import Order
from orderforms.replies import Reply

ROOT = pathlib.Path(__file__).resolve().parent.parent
PACKAGE = ROOT / "orderforms"

# Values that are no integers here.
NO_INTEGERS = (
    True, False, None, "", "0", "1", "a", [], [0], [1], (), (0,), (1,), ((0, 1),), ([],),
    Order(0, ()), Order(2, ((0, 1),)),
)

# Values that are neither list nor tuple.
NO_ROWS = (True, False, None, "", "01", "a", 0, 1, -1, 2**70, Order(0, ()), Order(2, ((0, 1),)))

# Values of all kinds.
VALUES = NO_INTEGERS + (
    -1, -2, 0, 1, 2, 3, 7, 10, 11, 2**70, -(2**70), "0:", "2: 0<1",
    [True], (True,), (False, 0), (0, 0), (0, 1), (1, 0), [0, 1], (-1,), (None,), ("0",), (2**70,),
    ((),), ((0,),), ((0,), (1,)), ([0], [1]), [(0,), (1,)], ((True,),), (0, (1,)), ((0, 0),),
    Lattice(1, ()), Lattice(2, ((0, 1),)), Incidence(Order(0, ()), ()), Incidence(Order(1, ()), ((1,),)),
    Reply("done"), Reply("number", "1", (1,)), Console(), Console(most=0),
)


def is_order(n, pairs):
    """Tell if the set of pairs is a relation as in point 1.2."""
    if any(x == y for x, y in pairs):
        return False
    return all((x, w) in pairs for x, y in pairs for z, w in pairs if y == z)


def all_relations(n):
    """Generate the relations of all orders of n points, each as a frozenset of pairs."""
    unlike = [(x, y) for x in range(n) for y in range(n) if x < y]
    for ways in itertools.product((0, 1, 2), repeat=len(unlike)):
        pairs = frozenset(
            (x, y) if way == 1 else (y, x) for (x, y), way in zip(unlike, ways) if way > 0
        )
        if is_order(n, pairs):
            yield pairs


def small_orders(most):
    """Return all orders of 0 to `most` points, alike ones too."""
    return [Order(n, sorted(pairs)) for n in range(most + 1) for pairs in all_relations(n)]


def greater_orders():
    """Return some orders of 5 to 10 points."""
    cube = [(x, y) for x in range(8) for y in range(8) if x != y and x & y == x]
    crown = [(x, 5 + y) for x in range(5) for y in range(5) if x != y]
    return [
        Order(5, ((4, 0), (0, 2), (3, 2))),
        Order(6, ((0, 3), (0, 4), (1, 3), (1, 5), (2, 4), (2, 5))),
        Order(7, ((6, 5), (5, 4), (6, 3), (3, 2), (1, 0))),
        Order(8, cube),
        Order(9, ((8, 0), (8, 1), (0, 2), (1, 2), (3, 4), (4, 5), (2, 7))),
        Order(10, ()),
        Order(10, crown),
        Order(10, [(x + 1, x) for x in range(9)]),
        Order(10, ((9, 1), (9, 2), (1, 3), (2, 3), (3, 0), (4, 5), (5, 6), (4, 7), (7, 6), (6, 8), (0, 8))),
    ]


def closure(pairs):
    """Return the least transitive relation that has all the pairs, found by adding pairs."""
    found = set(pairs)
    while True:
        more = {(x, w) for x, y in found for z, w in found if y == z} - found
        if not more:
            return found
        found |= more


def points_of(bits):
    """Return the ascending tuple of the members of a set of points, by its binary digits."""
    return tuple(x for x, digit in enumerate(reversed(format(bits, "b"))) if digit == "1")


def bits_of(points):
    """Return the set of unlike points as a number."""
    return sum(2**x for x in set(points))


def relation(order):
    """Return the set of the pairs of an order, from its field `above` alone."""
    return {(x, y) for x in range(order.n) for y in points_of(order.above[x])}


def at_most_pairs(n, pairs):
    """Return the set of the pairs (x, y) with x at most y, given a transitive relation."""
    return set(pairs) | {(x, x) for x in range(n)}


def bound(n, pairs, x, y):
    """Return the join of two members by its definition, None if there is none, given a transitive relation."""
    near = at_most_pairs(n, pairs)
    common = [z for z in range(n) if (x, z) in near and (y, z) in near]
    least = [z for z in common if all((z, w) in near for w in common)]
    return least[0] if least else None


def is_lattice(n, pairs):
    """Tell if a transitive relation without loops is that of a lattice, by the definition."""
    turned = {(y, x) for x, y in pairs}
    return n > 0 and all(
        bound(n, pairs, x, y) is not None and bound(n, turned, x, y) is not None for x in range(n) for y in range(x)
    )


def lattice_relations(n):
    """Generate relations of lattices of n members, in which 0 is the least one, each lattice up to names."""
    middle = [(x, y) for x in range(1, n - 1) for y in range(x + 1, n - 1)]
    ends = {(0, y) for y in range(1, n)} | {(x, n - 1) for x in range(n - 1)}
    for ways in itertools.product((False, True), repeat=len(middle)):
        pairs = ends | {pair for pair, way in zip(middle, ways) if way}
        if is_order(n, pairs) and is_lattice(n, pairs):
            yield pairs


def renumbered_relations(n, pairs):
    """Generate the relation with the members in some other orders, for few members in each order."""
    orders = list(itertools.permutations(range(n)))
    for images in orders[:: 1 if n <= 4 else len(orders) // 3 - 1]:
        yield {(images[x], images[y]) for x, y in pairs}


def lattice_relation(lattice):
    """Return the set of the pairs of a lattice, from its field `above` alone."""
    return {(x, y) for x, bits in enumerate(lattice.above) for y in points_of(bits)}


def small_lattices(most):
    """Return all lattices of 1 to `most` members up to names, in some numberings."""
    return [
        Lattice(n, sorted(made)) for n in range(1, most + 1)
        for pairs in lattice_relations(n) for made in renumbered_relations(n, pairs)
    ]


def lattice_chain(n):
    """Return the lattice of n members in a row."""
    return Lattice(n, [(x, x + 1) for x in range(n - 1)])


def lattice_fan(n):
    """Return the lattice of n members of which all but the least and the greatest one are unrelated."""
    return Lattice(n, [(0, x) for x in range(1, n)] + [(x, n - 1) for x in range(n - 1)])


def frozen(value):
    """Return a copy of a value in which lists, tuples and objects can be told apart and compared."""
    if isinstance(value, (Order, Lattice, Incidence, Reply, Console)):
        return (type(value).__name__, tuple((name, frozen(item)) for name, item in sorted(vars(value).items())))
    if isinstance(value, (list, tuple)):
        return (type(value).__name__, tuple(frozen(item) for item in value))
    if isinstance(value, dict):
        return ("dict", tuple((frozen(key), frozen(item)) for key, item in value.items()))
    return (type(value).__name__, value)


def twisted(value):
    """Generate the copies of a value made of tuples in which one part, within too, has another kind."""
    if isinstance(value, tuple):
        yield list(value)
        yield value + (None,)
        yield (value,)
        for k, item in enumerate(value):
            for other in twisted(item):
                yield value[:k] + (other,) + value[k + 1:]
    else:
        yield from (None, str(value) if isinstance(value, int) else [value], (value,), Order(0, ()))
        if value in (0, 1):
            yield value == 1


def check_error(test, error, call, *args, **fields):
    """Check that the call raises exactly this error, with these attributes."""
    with test.assertRaises(error, msg=f"{call} {args}") as caught:
        call(*args)
    test.assertIs(type(caught.exception), error, f"{call} {args}")
    for name, wanted in fields.items():
        told = getattr(caught.exception, name)
        test.assertEqual((type(told), told), (type(wanted), wanted), f"{call} {args}")


def check_truth(test, wanted, told, *about):
    """Check that the told value is the boolean itself, not one that is equal to it."""
    test.assertIs(told, wanted, about)


def check_steady(test, call, *args):
    """Check that two calls have equal results and change no argument; return the result."""
    before = frozen(args)
    first = frozen(call(*args))
    test.assertEqual(frozen(args), before, call)
    second = call(*args)
    test.assertEqual(frozen(second), first, call)
    test.assertEqual(frozen(args), before, call)
    return second


def check_class(test, module, name, parameters, methods):
    """Check that a module defines this class itself, and the class these methods itself, with these parameters."""
    found = getattr(importlib.import_module(f"orderforms.{module}"), name)
    tree = ast.parse((PACKAGE / f"{module}.py").read_text())
    defined = [node for node in tree.body if isinstance(node, ast.ClassDef) and node.name == name]
    test.assertEqual(len(defined), 1, name)
    test.assertEqual(str(inspect.signature(found)), parameters, name)
    standing = [node.name for node in defined[0].body if isinstance(node, ast.FunctionDef)]
    for method, wanted in methods.items():
        test.assertEqual(standing.count(method), 1, method)
        test.assertEqual(str(inspect.signature(vars(found)[method])), wanted, method)


def check_names(test, module, functions):
    """Check that a module defines these functions itself, with these parameters."""
    found = importlib.import_module(f"orderforms.{module}")
    tree = ast.parse((PACKAGE / f"{module}.py").read_text())
    defined = [node.name for node in tree.body if isinstance(node, ast.FunctionDef)]
    for name, parameters in functions.items():
        test.assertEqual(defined.count(name), 1, name)
        test.assertEqual(str(inspect.signature(getattr(found, name))), parameters, name)
