"""Least and greatest answers, and the runs that they make."""

from heldalways.answers import answer_ranges, is_answer
from heldalways.errors import Refused
from heldalways.steps import run_by, said_in, script_of


def end_answer(web, table, values, move, end, word):
    """The answer with the numbers at one end of all ranges, refused with a word if one has none."""
    ends = [pair[end] for pair in answer_ranges(web, table, values, move)]
    if None in ends:
        raise Refused(word)
    return tuple(ends)


def least_answer(web, table, values, move):
    return end_answer(web, table, values, move, 0, "low")


def greatest_answer(web, table, values, move):
    return end_answer(web, table, values, move, 1, "high")


def end_run(web, table, position, script, end, word):
    """The run of the answers at one end of all ranges."""
    old = position[1]
    said = []
    for move in script:
        old = end_answer(web, table, old, move, end, word)
        said.append(old)
    return run_by(position, script, said)


def least_run(web, table, position, script):
    return end_run(web, table, position, script, 0, "low")


def greatest_run(web, table, position, script):
    return end_run(web, table, position, script, 1, "high")


def first_odd(web, table, run):
    old = run[0][1]
    for at, (move, new) in enumerate(run[1]):
        if not is_answer(web, table, old, move, new):
            return at
        old = new
    return None


def picked_values(one, other, higher):
    """The greater value of both for each quantity, or the lesser."""
    return tuple([max(first, last) if higher else min(first, last) for first, last in zip(one, other)])


def picked_run(one, other, higher):
    (state, values), _ = one
    said = [picked_values(first, last, higher) for first, last in zip(said_in(one), said_in(other))]
    return run_by((state, picked_values(values, other[0][1], higher)), script_of(one), said)


def higher_run(one, other):
    return picked_run(one, other, True)


def lower_run(one, other):
    return picked_run(one, other, False)
