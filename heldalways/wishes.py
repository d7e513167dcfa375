"""Answers that are as near to what is wished as can be."""

from heldalways.answers import check_held, fixed_numbers, move_rows
from heldalways.bounds import heaviest, heaviest_walk, is_point_walk, walk_weight
from heldalways.hidden import both_rows
from heldalways.solving import solution


def wish_numbers(values, wish):
    """The number of each point of a move, None for a new one without a wish."""
    return (0, *values, *wish)


def asked_distance(numbers, many, walk, weight):
    """The distance that a walk of a weight between points with numbers asks for, at most 0 if none.

    None if an end has no number, or both are old.
    """
    first, last = numbers[walk[0]], numbers[walk[-1]]
    if first is None or last is None or max(walk[0], walk[-1]) <= many:
        return None
    lack = first + weight - last
    # Two new values can each go half of the way.
    return lack if min(walk[0], walk[-1]) <= many else -(-lack // 2)


def farthest(rows, numbers, many):
    """The greatest distance that walks between two points ask for, and these; 0 and None if none asks."""
    best = heaviest(rows)
    found = 0
    pair = None
    for one, row in enumerate(best):
        for other, weight in enumerate(row):
            if weight is not None:
                asked = asked_distance(numbers, many, (one, other), weight)
                if asked is not None and asked > found:
                    found = asked
                    pair = (one, other)
    return found, pair


def least_distance(web, table, values, move, wish):
    check_held(web, table, values, move)
    return farthest(move_rows(web, table, move), wish_numbers(values, wish), len(values))[0]


def rows_near_wish(values, wish, distance):
    """The rows that new values keep that are at most so far from a wish."""
    many = 2 * len(values) + 1
    rows = [[None] * many for _ in range(many)]
    for at, number in enumerate(wish):
        if number is not None:
            point = len(values) + 1 + at
            rows[0][point] = number - distance
            rows[point][0] = -number - distance
    return rows


def near_answer(web, table, values, move, wish):
    fixed = fixed_numbers(web, table, values, move, None)
    rows = move_rows(web, table, move)
    distance = farthest(rows, wish_numbers(values, wish), len(values))[0]
    near = both_rows(rows, rows_near_wish(values, wish, distance))
    return solution(near, fixed).setting[len(values) + 1:]


def is_far_walk(web, table, values, move, wish, distance, value):
    rows = move_rows(web, table, move)
    if not is_point_walk(rows, value):
        return False
    asked = asked_distance(wish_numbers(values, wish), len(values), value, walk_weight(rows, value))
    return asked is not None and asked >= distance


def far_walk(web, table, values, move, wish):
    check_held(web, table, values, move)
    rows = move_rows(web, table, move)
    _, pair = farthest(rows, wish_numbers(values, wish), len(values))
    return () if pair is None else heaviest_walk(rows, pair[0], pair[1])
