"""Largest matchings and least covers of two-sided graphs."""

from orderforms.bits import count, has, is_integer, is_part, is_set, lowest, members, set_of


def largest_matching(joined, right):
    """Return the tuple of the matched right points of the left points, -1 for none."""
    holders = [-1] * right
    for x in range(len(joined)):
        way = augmenting_way(joined, holders, x)
        for left, y in way:
            holders[y] = left
    return partners(len(joined), holders)


def augmenting_way(joined, holders, start):
    """Return the pairs to match along an augmenting way from a left point, [] if there is none."""
    # The way is kept in two lists instead of by recursion, as it may be long:
    # lefts[k] goes on through rights[k], and lefts[k + 1] is the holder of rights[k].
    lefts = [start]
    rights = []
    seen = 0
    while len(lefts) > 0:
        fresh = joined[lefts[-1]] & ~seen
        if fresh == 0:
            lefts.pop()
            del rights[-1:]
            continue
        y = lowest(fresh)
        seen = seen | (1 << y)
        rights.append(y)
        if holders[y] == -1:
            return list(zip(lefts, rights))
        lefts.append(holders[y])
    return []


def partners(size, holders):
    """Return the tuple of the right points that the left points hold, -1 for none."""
    found = [-1] * size
    for y, x in enumerate(holders):
        if x != -1:
            found[x] = y
    return tuple(found)


def least_cover(joined, right, matching):
    """Return the cover (left, right) of the sets that belongs to a largest matching."""
    holders = partners(right, matching)
    waiting = [x for x in range(len(joined)) if matching[x] == -1]
    left_reached = set_of(waiting)
    right_reached = 0
    while len(waiting) > 0:
        fresh = joined[waiting.pop()] & ~right_reached
        right_reached = right_reached | fresh
        found = [holders[y] for y in members(fresh) if holders[y] != -1]
        left_reached = left_reached | set_of(found)
        waiting.extend(found)
    outside = [x for x in range(len(joined)) if not has(left_reached, x)]
    return (set_of(outside), right_reached)


def is_matching(joined, matching):
    """Return True if the value is a matching, told as by largest_matching, for every value."""
    if not isinstance(matching, tuple) or len(matching) != len(joined):
        return False
    if not all([is_integer(y) and y >= -1 for y in matching]):
        return False
    matched = [(x, y) for x, y in enumerate(matching) if y != -1]
    if not all([has(joined[x], y) for x, y in matched]):
        return False
    return count(set_of([y for x, y in matched])) == len(matched)


def is_cover(joined, cover):
    """Return True if the value is a pair of sets with a point of each joined pair, for every value."""
    if not isinstance(cover, tuple) or len(cover) != 2:
        return False
    left, right = cover
    if not is_set(left, len(joined)) or not is_integer(right) or right < 0:
        return False
    return all([has(left, x) or is_part(joined[x], right) for x in range(len(joined))])
