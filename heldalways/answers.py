"""What a controller with a right table may answer to a move."""

from heldalways.bounds import is_setting
from heldalways.errors import Refused
from heldalways.kinds import are_integers
from heldalways.solving import Solved, number_ranges, solution
from heldalways.tours import keeps_rows


def move_rows(web, table, move):
    _, _, end, rules = web.moves[move]
    many = len(web.quantities)
    # The rows told have the arcs between the ground's points, too: 0 on the diagonal.
    told = [[row[0], *[None] * many, *row[1:]] for row in table[end]]
    rows = [told[0], *[[None] * (2 * many + 1) for _ in range(many)], *told[1:]]
    for kind, one, other, weight in rules:
        far = new_point(many, other)
        if kind == "fall":
            row, at = rows[far], one
        else:
            row, at = rows[one if kind == "rise" else new_point(many, one)], far
        if row[at] is None or row[at] < weight:
            row[at] = weight
    return tuple([tuple(row) for row in rows])


def new_point(many, number):
    """The point of a move for the ground or the new value of a quantity."""
    return number + many if number > 0 else 0


def is_answer(web, table, values, move, value):
    if not are_integers(value, len(web.quantities)):
        return False
    return is_setting(move_rows(web, table, move), (0, *values, *value))


def check_held(web, table, values, move):
    if not keeps_rows(table[web.moves[move][1]], values):
        raise Refused("held")


def fixed_numbers(web, table, values, move, said):
    """The numbers of the points of a move that are known; refused if the table is not kept."""
    check_held(web, table, values, move)
    if said is None:
        said = (None,) * len(values)
    return (0, *values, *said)


def answer_ranges(web, table, values, move, said=None):
    fixed = fixed_numbers(web, table, values, move, said)
    try:
        ranges = number_ranges(move_rows(web, table, move), fixed)
    except Refused:
        raise Refused("said") from None
    return ranges[len(values) + 1:]


def some_answer(web, table, values, move, said=None):
    fixed = fixed_numbers(web, table, values, move, said)
    found = solution(move_rows(web, table, move), fixed)
    if not isinstance(found, Solved):
        raise Refused("said")
    return found.setting[len(values) + 1:]
