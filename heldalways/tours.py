"""Excursions and tours, and the layers of what they ask for."""

from heldalways.bounds import heaviest, keeps_entries, raise_row
from heldalways.errors import InvalidNumber
from heldalways.hidden import both_rows
from heldalways.kinds import is_within
from heldalways.webs import check_values, moves_from

MOST_LAYERS = 500


def move_arcs(web, move):
    into = [("old", 0, "new", 0, 0, ("ground", 0))]
    among = []
    back = [("new", 0, "old", 0, 0, ("ground", 0))]
    for at, (kind, one, other, weight) in enumerate(web.moves[move][3]):
        step = ("rule", at)
        if kind == "rise":
            into.append(("old", one, "new", other, weight, step))
        elif kind == "fall":
            back.append(("new", other, "old", one, weight, step))
        else:
            among.append(("new", one, "new", other, weight, step))
    return (*into, *among, *back)


def move_frame(web, move):
    """The greatest weights of the arcs to new points, among them, and back."""
    size = len(web.quantities) + 1
    into, among, back = [[[None] * size for _ in range(size)] for _ in range(3)]
    into[0][0] = 0
    back[0][0] = 0
    for kind, one, other, weight in web.moves[move][3]:
        if kind == "fall":
            row, at = back[other], one
        else:
            row, at = (into if kind == "rise" else among)[one], other
        if row[at] is None or row[at] < weight:
            row[at] = weight
    return into, among, back


def joined_row(row, rows):
    """The greatest weights of one entry of a row and one of the rows behind it."""
    found = [None] * len(row)
    for at, entry in enumerate(row):
        if entry is not None:
            raise_row(found, rows[at], entry)
    return tuple(found)


def joined_rows(one, other):
    return tuple([joined_row(row, other) for row in one])


def excursion_rows(frame, told):
    """The greatest weights of excursions by a move, with the rows told at its end.

    None if these and the move's "now" rules have a ring.
    """
    into, among, back = frame
    inner = heaviest(both_rows(told, among))
    if inner is None:
        return None
    return joined_rows(joined_rows(into, inner), back)


def first_rows(web):
    many = len(web.quantities) + 1
    return tuple([tuple([0 if one == other else None for other in range(many)]) for one in range(many)])


def first_layer(web):
    return (first_rows(web),) * len(web.states)


def tour_rows(web, frames, layer, state):
    """The rows of a state in the next layer, None if there is a ring."""
    rows = first_rows(web)
    for move in moves_from(web, state):
        told = layer[web.moves[move][2]]
        found = None if told is None else excursion_rows(frames[move], told)
        if found is None:
            return None
        rows = both_rows(rows, found)
    return heaviest(rows)


def next_layer(web, frames, layer, states, before=None):
    """The next layer for a lot of states with all that are reached from them; the others keep their rows.

    If the layer before is told, too, just what has changed is looked at.
    """
    changed = [before is None or rows != before[state] for state, rows in enumerate(layer)]
    moved = [start for _, start, end, _ in web.moves if changed[end]]
    return tuple([
        tour_rows(web, frames, layer, state) if state in states and (before is None or state in moved) else rows
        for state, rows in enumerate(layer)])


def every_state(web):
    return tuple([state for state in range(len(web.states))])


def move_frames(web):
    return [move_frame(web, move) for move in range(len(web.moves))]


def layer_rows(web, layer):
    return next_layer(web, move_frames(web), layer, every_state(web))


def check_most(most):
    if not is_within(most, 0, MOST_LAYERS):
        raise InvalidNumber("most")


def layers(web, most):
    check_most(most)
    frames = move_frames(web)
    found = [first_layer(web)]
    while len(found) <= most:
        before = found[-2] if len(found) > 1 else None
        layer = next_layer(web, frames, found[-1], every_state(web), before)
        if layer == found[-1]:
            # What one more move does not change stays for ever.
            found.extend([layer] * (most - len(found)))
        found.append(layer)
    return tuple(found)


def keeps_rows(rows, values):
    return keeps_entries(rows, (0, *values))


def is_held_for(web, state, values, most):
    check_values(web, values)
    rows = layers(web, most)[most][state]
    return rows is not None and keeps_rows(rows, values)
