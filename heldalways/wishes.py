"""Answers that are as near to what is wished as can be."""

from heldalways.answers import check_held, fixed_numbers, move_rows
from heldalways.bounds import heaviest, heaviest_walk
from heldalways.hidden import both_rows
from heldalways.kinds import is_index
from heldalways.solving import solution


def wish_numbers(values, wish):
    """The number of each point of a move, None for a new one without a wish."""
    return (0, *values, *wish)


def asked_distance(numbers, many, walk, weight):
    """The distance that a walk of a weight between points with numbers asks for, at most 0 if none.

    None if an end has no number, or both are old.
    """
    first, last = numbers[walk[0]], numbers[walk[-1]]
    if first is None or last is None or max(walk[0], walk[-1]) <= many:
        return None
    lack = first + weight - last
    # Two new values can each go half of the way.
    return lack if min(walk[0], walk[-1]) <= many else -(-lack // 2)


def farthest(rows, numbers, many):
    """The greatest distance that walks between two points ask for, and these; 0 and None if none asks."""
    best = heaviest(rows)
    known = [point for point, number in enumerate(numbers) if number is not None]
    found = 0
    pair = None
    for one in known:
        for other in known:
            weight = best[one][other]
            if weight is not None and (one > many or other > many):
                asked = asked_distance(numbers, many, (one, other), weight)
                if asked > found:
                    found = asked
                    pair = (one, other)
    return found, pair


def least_distance(web, table, values, move, wish):
    check_held(web, table, values, move)
    return farthest(move_rows(web, table, move), wish_numbers(values, wish), len(values))[0]


def rows_near_wish(values, wish, distance):
    """The rows that new values keep that are at most so far from a wish."""
    many = 2 * len(values) + 1
    rows = [[None] * many for _ in range(many)]
    for at, number in enumerate(wish):
        if number is not None:
            point = len(values) + 1 + at
            rows[0][point] = number - distance
            rows[point][0] = -number - distance
    return rows


def near_answer(web, table, values, move, wish):
    fixed = fixed_numbers(web, table, values, move, None)
    rows = move_rows(web, table, move)
    distance = farthest(rows, wish_numbers(values, wish), len(values))[0]
    near = both_rows(rows, rows_near_wish(values, wish, distance))
    return solution(near, fixed).setting[len(values) + 1:]


def new_number(many, point):
    """The ground or the quantity whose new value a point has, -1 for an old value."""
    if point == 0:
        return 0
    return point - many if point > many else -1


def entry_at(web, table, move, one, other):
    """The entry of move_rows from one point to another, without the others."""
    _, _, end, rules = web.moves[move]
    many = len(web.quantities)
    begin = new_number(many, one)
    last = new_number(many, other)
    best = table[end][begin][last] if begin >= 0 and last >= 0 else None
    # Numbers of old points are those of the quantities; new points have greater ones.
    for kind, first, second, weight in rules:
        if kind == "rise":
            hit = first == one and second == last
        elif kind == "fall":
            hit = first == other and second == begin
        else:
            hit = first == begin and second == last
        if hit and (best is None or best < weight):
            best = weight
    return best


def weight_along(web, table, move, points):
    """The weight of a point walk along points, None if they are none."""
    entries = {}
    weight = 0
    for arc in zip(points, points[1:]):
        if arc not in entries:
            entries[arc] = entry_at(web, table, move, arc[0], arc[1])
        if entries[arc] is None:
            return None
        weight += entries[arc]
    return weight


def is_far_walk(web, table, values, move, wish, distance, value):
    if not isinstance(value, tuple) or value == ():
        return False
    numbers = wish_numbers(values, wish)
    if not all([is_index(point, len(numbers)) for point in value]):
        return False
    # Most values asked are none at a glance: their ends tell.
    if asked_distance(numbers, len(values), value, 0) is None:
        return False
    weight = weight_along(web, table, move, value)
    return weight is not None and asked_distance(numbers, len(values), value, weight) >= distance


def far_walk(web, table, values, move, wish):
    check_held(web, table, values, move)
    rows = move_rows(web, table, move)
    _, pair = farthest(rows, wish_numbers(values, wish), len(values))
    return () if pair is None else heaviest_walk(rows, pair[0], pair[1])
