"""Tables: rows for each state that tell what can be held for ever."""

from heldalways.bounds import is_entry
from heldalways.hidden import lesser
from heldalways.kinds import is_tuple_of
from heldalways.tours import excursion_rows, keeps_rows, layer_rows, move_frame
from heldalways.webs import reached


def are_closed(rows):
    """Whether rows have 0 from each point to itself, and no entry that two others surpass."""
    for at, row in enumerate(rows):
        if row[at] != 0:
            return False
        for middle, entry in enumerate(row):
            if entry is not None and not is_no_less(row, rows[middle], entry):
                return False
    return True


def is_no_less(row, other, weight):
    """Whether a row's entries are no less than those of another one with a weight added."""
    for entry, beside in zip(row, other):
        if beside is not None and (entry is None or entry < beside + weight):
            return False
    return True


def are_closed_rows(many, value):
    """Whether any value is closed rows of so many points."""
    if not is_tuple_of(value, many):
        return False
    for row in value:
        if not is_tuple_of(row, many) or not all([is_entry(entry) for entry in row]):
            return False
    return are_closed(value)


def keeps_move(web, table, move):
    """Whether a move from a told state is as a right table asks."""
    told = table[web.moves[move][2]]
    if told is None:
        return False
    found = excursion_rows(move_frame(web, move), told)
    if found is None:
        return False
    asked = table[web.moves[move][1]]
    return all([is_no_less(row, beside, 0) for row, beside in zip(asked, found)])


def broken_move(web, table):
    for move, (_, start, _, _) in enumerate(web.moves):
        if table[start] is not None and not keeps_move(web, table, move):
            return move
    return None


def has_form(web, value):
    """Whether any value is a table, right or not."""
    many = len(web.quantities) + 1
    if not is_tuple_of(value, len(web.states)):
        return False
    return all([rows is None or are_closed_rows(many, rows) for rows in value])


def is_table(web, value):
    return has_form(web, value) and broken_move(web, value) is None


def keeps_table(table, state, values):
    return table[state] is not None and keeps_rows(table[state], values)


def lowered_table(web, table):
    lower = layer_rows(web, table)
    return tuple([None if told is None else rows for told, rows in zip(table, lower)])


def lesser_rows(one, other):
    """The rows with the lesser entries; if only one is there, these."""
    if one is None or other is None:
        return other if one is None else one
    return tuple([
        tuple([lesser(entry, same) for entry, same in zip(row, beside)])
        for row, beside in zip(one, other)])


def merged_table(one, other):
    return tuple([lesser_rows(rows, beside) for rows, beside in zip(one, other)])


def reached_table(web, table, state):
    near = reached(web, state)
    return tuple([rows if at in near else None for at, rows in enumerate(table)])
