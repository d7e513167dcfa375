"""What may be said at a state, by a table."""

from heldalways.errors import Refused
from heldalways.hidden import both_rows
from heldalways.solving import Solved, number_ranges, solution
from heldalways.tours import layers


def fixed_points(rows, said):
    """The numbers of the ground and of what is said."""
    return (0, *([None] * (len(rows) - 1) if said is None else said))


def say_ranges(table, state, said=None):
    rows = table[state]
    try:
        return number_ranges(rows, fixed_points(rows, said))[1:]
    except Refused:
        raise Refused("said") from None


def some_held(table, state, said=None):
    rows = table[state]
    found = solution(rows, fixed_points(rows, said))
    if not isinstance(found, Solved):
        raise Refused("said")
    return found.setting[1:]


def asked_distances(rows, values):
    """For each pair of points with an integer entry the distance that the entry asks for."""
    numbers = (0, *values)
    found = {}
    for one, row in enumerate(rows):
        for other, entry in enumerate(row):
            if entry is not None:
                lack = max(0, entry - (numbers[other] - numbers[one]))
                # Two quantities can each go half of the way.
                found[(one, other)] = lack if one == 0 or other == 0 else (lack + 1) // 2
    return found


def held_distance(table, state, values):
    return max(list(asked_distances(table[state], values).values()))


def rows_near(values, distance):
    """The rows that just the values keep that are at most so far from values."""
    low = [number - distance for number in values]
    high = [number + distance for number in values]
    rows = [(0, *low)]
    for at in range(len(values)):
        rows.append((-high[at], *[None] * len(values)))
    return tuple(rows)


def near_held(table, state, values):
    distance = held_distance(table, state, values)
    rows = both_rows(table[state], rows_near(values, distance))
    return solution(rows, fixed_points(rows, None)).setting[1:]


def far_pair(table, state, values):
    asked = asked_distances(table[state], values)
    most = max(list(asked.values()))
    if most == 0:
        return None
    return min([pair for pair in asked if asked[pair] == most])


def ranges_in(rows):
    """The least and the greatest value of each quantity that keeps closed rows."""
    return tuple([
        (rows[0][at], None if rows[at][0] is None else -rows[at][0])
        for at in range(1, len(rows))])


def held_ranges(web, state, most):
    found = [layer[state] for layer in layers(web, most)]
    return tuple([None if rows is None else ranges_in(rows) for rows in found])
