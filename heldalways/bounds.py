"""Rows of differences between points: settings, walks, greatest weights."""

from heldalways.errors import Refused
from heldalways.kinds import are_integers, is_index, is_integer, is_tuple_of, is_tuple_up_to

MOST_POINTS = 16


def is_entry(value):
    return value is None or is_integer(value)


def are_rows(value):
    if not is_tuple_up_to(value, MOST_POINTS):
        return False
    for row in value:
        if not is_tuple_of(row, len(value)) or not all([is_entry(entry) for entry in row]):
            return False
    return True


def keeps_entries(rows, setting):
    """Whether a tuple of an integer for each point keeps rows."""
    for one, row in zip(setting, rows):
        for other, entry in zip(setting, row):
            if entry is not None and other - one < entry:
                return False
    return True


def is_setting(rows, value):
    return are_integers(value, len(rows)) and keeps_entries(rows, value)


def is_point_walk(rows, value):
    if not isinstance(value, tuple) or value == ():
        return False
    if not all([is_index(point, len(rows)) for point in value]):
        return False
    return all([rows[value[at]][value[at + 1]] is not None for at in range(len(value) - 1)])


def walk_weight(rows, walk):
    """The weight of a point walk."""
    return sum([rows[walk[at]][walk[at + 1]] for at in range(len(walk) - 1)])


def is_point_ring(rows, value):
    return is_point_walk(rows, value) and value[0] == value[-1] and walk_weight(rows, value) > 0


def heaviest(rows):
    many = len(rows)
    best = [list(row) for row in rows]
    for at in range(many):
        if best[at][at] is None or best[at][at] < 0:
            best[at][at] = 0
    for middle in range(many):
        # Some ring has this point as its last one, in the sequence of points.
        if best[middle][middle] > 0:
            return None
        for one in range(many):
            if one != middle and best[one][middle] is not None:
                raise_row(best[one], best[middle], best[one][middle])
    return tuple([tuple(row) for row in best])


def raise_row(row, other, weight):
    """Raises the entries of a row to those of another one with a weight added."""
    for at, entry in enumerate(other):
        if entry is not None and (row[at] is None or row[at] < entry + weight):
            row[at] = entry + weight


def next_steps(rows, weights):
    """For walks with one more arc the greatest weight to each point, and the point before.

    Weights are those of walks with so many arcs as before, None where none leads.
    """
    longer = [None] * len(rows)
    before = [None] * len(rows)
    for one, weight in enumerate(weights):
        if weight is not None:
            for other, entry in enumerate(rows[one]):
                if entry is not None and (longer[other] is None or longer[other] < weight + entry):
                    longer[other] = weight + entry
                    before[other] = one
    return longer, before


def walk_back(befores, point):
    """The walk to a point along the points before, one list of them for each arc."""
    walk = [point]
    for before in reversed(befores):
        walk.append(before[walk[-1]])
    return tuple(reversed(walk))


def first_walk(rows, one, other, least, arcs):
    """Some walk with at least this weight, at least one arc, and the fewest up to so many."""
    weights = [None] * len(rows)
    weights[one] = 0
    befores = []
    for _ in range(arcs):
        weights, before = next_steps(rows, weights)
        befores.append(before)
        if weights[other] is not None and weights[other] >= least:
            return walk_back(befores, other)
    return None


def ring_in(rows):
    shortest = None
    for point in range(len(rows)):
        walk = first_walk(rows, point, point, 1, len(rows))
        if walk is not None and (shortest is None or len(walk) < len(shortest)):
            shortest = walk
    return shortest


def heaviest_walk(rows, one, other):
    best = heaviest(rows)
    if best is None:
        raise Refused("ring")
    weight = best[one][other]
    if weight is None:
        return None
    if one == other:
        return (one,)
    return first_walk(rows, one, other, weight, len(rows))
