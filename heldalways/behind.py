"""Where values can be behind a script, if all its moves have answers."""

from heldalways.answers import move_rows
from heldalways.bounds import keeps_entries
from heldalways.errors import Refused
from heldalways.hidden import both_rows, seen_rows
from heldalways.solving import solution
from heldalways.steps import run_by
from heldalways.tours import keeps_rows


def exact_rows(values):
    """The rows that just these values keep."""
    numbers = (0, *values)
    return tuple([tuple([last - first for last in numbers]) for first in numbers])


def rows_ahead(table, state, values):
    """The rows at the beginning of a script."""
    if values is None:
        return table[state]
    if not keeps_rows(table[state], values):
        raise Refused("held")
    return exact_rows(values)


def joint_rows(web, table, move, rows):
    """The rows of the points of a move whose old values keep rows."""
    wide = [[*row, *[None] * (len(rows) - 1)] for row in rows]
    wide.extend([[None] * (2 * len(rows) - 1)] * (len(rows) - 1))
    return both_rows(move_rows(web, table, move), wide)


def rows_along(web, table, script, rows):
    """The rows ahead of a script and behind each of its moves."""
    found = [rows]
    for move in script:
        many = len(rows) - 1
        points = [0, *list(range(many + 1, 2 * many + 1))]
        found.append(seen_rows(joint_rows(web, table, move, found[-1]), points))
    return found


def rows_behind(web, table, state, script, values=None):
    return rows_along(web, table, script, rows_ahead(table, state, values))[-1]


def run_behind(web, table, state, script, goal, values=None):
    along = rows_along(web, table, script, rows_ahead(table, state, values))
    if not keeps_entries(along[-1], (0, *goal)):
        return None
    said = [goal]
    for move, rows in reversed(list(zip(script, along))):
        fixed = (0, *[None] * len(goal), *said[-1])
        setting = solution(joint_rows(web, table, move, rows), fixed).setting
        said.append(setting[1:len(goal) + 1])
    said = tuple(reversed(said))
    return run_by((state, said[0]), script, said[1:])
