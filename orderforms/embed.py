"""Maps between orders that keep them: kept maps, strict maps and embeddings."""

from orderforms.bits import is_point, members, whole
from orderforms.errors import Malformed

KINDS = ("kept", "strict", "embedding")


def kept_maps(a, b):
    """Generate all kept maps from a to b, ascending."""
    yield from maps_of_kind(a, b, "kept")


def strict_maps(a, b):
    """Generate all strict maps from a to b, ascending."""
    yield from maps_of_kind(a, b, "strict")


def embeddings(a, b):
    """Generate all embeddings of a in b, ascending."""
    yield from maps_of_kind(a, b, "embedding")


def count_maps(a, b, *, kind="kept"):
    """Return the number of the maps of a kind from a to b."""
    check_kind(kind)
    start = first_state(a, b)
    return ways_on(step_table(a, b, kind))[start]


def first_map(a, b, *, kind="embedding"):
    """Return the least map of a kind from a to b, or None."""
    check_kind(kind)
    for f in maps_of_kind(a, b, kind):
        return f
    return None


def is_kept(a, b, f):
    """Return True if the value is a kept map from a to b, for every value."""
    return is_row_of_images(a, b, f) and all([b.at_most(f[x], f[y]) for x, y in a.pairs()])


def is_strict(a, b, f):
    """Return True if the value is a strict map from a to b, for every value."""
    return is_row_of_images(a, b, f) and all([b.less(f[x], f[y]) for x, y in a.pairs()])


def is_embedding(a, b, f):
    """Return True if the value is an embedding of a in b, for every value."""
    if not is_row_of_images(a, b, f):
        return False
    points = range(a.n)
    return all([a.at_most(x, y) == b.at_most(f[x], f[y]) for x in points for y in points])


def is_row_of_images(a, b, f):
    """Return True if the value is a tuple of points of b, one for each point of a, for every value."""
    return isinstance(f, tuple) and len(f) == a.n and all([is_point(y, b.n) for y in f])


def check_kind(kind):
    """Raise Malformed if the value is no kind of maps."""
    if kind not in KINDS:
        raise Malformed("the value is no kind of maps")


# When the points from 0 to k - 1 have their images, a state is the tuple of the sets of images that
# these leave to each of the points from k on. What may follow depends on the state alone, so that
# rows of images which leave the same state are followed together.


def first_state(a, b):
    """Return the state of the points of a when none of them has an image yet."""
    return (whole(b.n),) * a.n


def step_table(a, b, kind):
    """Return a dict from the states that occur to the lists of the images of the next point and the states then."""
    near = [near_sets(b, kind, y) for y in range(b.n)]
    steps = {}
    waiting = [first_state(a, b)]
    while len(waiting) > 0:
        state = waiting.pop()
        if state not in steps:
            steps[state] = steps_from(a, near, state)
            waiting.extend([rest for y, rest in steps[state]])
    return steps


def near_sets(b, kind, y):
    """Return the sets of images of the points above, below and unrelated to one with the image y."""
    every = whole(b.n)
    above = b.above[y]
    below = b.below()[y]
    same = 1 << y
    if kind == "kept":
        return (above | same, below | same, every)
    if kind == "strict":
        return (above, below, every)
    return (above, below, every & ~(above | below | same))


def steps_from(a, near, state):
    """Return the pairs of an image of the next point and the state then, ascending; none if all have images."""
    if len(state) == 0:
        return []
    found = [(y, state_after(a, near[y], state)) for y in members(state[0])]
    # A point without images left ends the search.
    return [(y, rest) for y, rest in found if 0 not in rest]


def state_after(a, sets, state):
    """Return the state when the next point has an image, given the sets of images near this one."""
    above, below, unrelated = sets
    x = a.n - len(state)
    rest = []
    for z in range(x + 1, a.n):
        left = state[z - x]
        if a.less(x, z):
            rest.append(left & above)
        elif a.less(z, x):
            rest.append(left & below)
        else:
            rest.append(left & unrelated)
    return tuple(rest)


def ways_on(steps):
    """Return a dict from the states to the numbers of the rows of images that complete them."""
    ways = {}
    for state in sorted(steps, key=len):
        ways[state] = 1 if len(state) == 0 else sum([ways[rest] for y, rest in steps[state]])
    return ways


def maps_of_kind(a, b, kind):
    """Generate all maps of a kind from a to b, ascending."""
    steps = step_table(a, b, kind)
    ways = ways_on(steps)
    waiting = [((), first_state(a, b))]
    while len(waiting) > 0:
        row, state = waiting.pop()
        if len(state) == 0:
            yield row
        # The last one that is put down is the first one that is taken up.
        for y, rest in reversed(steps[state]):
            if ways[rest] > 0:
                waiting.append((row + (y,), rest))
