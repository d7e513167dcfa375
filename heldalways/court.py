"""What is held for ever: a controller, or a ring or a pump that shows why there is none."""

from heldalways.pumps import Pump, Ring, is_pump, is_ring_paper
from heldalways.settle import depth_bound, final_of, final_rows, is_settled, layers_of
from heldalways.tables import is_table
from heldalways.tours import first_layer, keeps_rows, move_frames, next_layer
from heldalways.webs import check_values, reached


class Controller:
    """Who answers so that a table is kept."""

    def __init__(self, table):
        self.table = table


def paper_state(web, paper):
    if isinstance(paper, Pump):
        return paper.excursions[paper.outer][0]
    return paper.state if paper.move is None else web.moves[paper.move][1]


def is_paper(web, value):
    """Whether any value is a right ring or pump."""
    return is_ring_paper(web, value) or is_pump(web, value)


def is_controller(web, value):
    return isinstance(value, Controller) and is_table(web, value.table)


def is_verdict(web, value):
    if is_controller(web, value):
        return None not in value.table
    return is_paper(web, value)


def is_verdict_at(web, state, value):
    if is_controller(web, value):
        return value.table[state] is not None
    return is_paper(web, value) and paper_state(web, value) in reached(web, state)


def court(web):
    found = final_rows(web)
    return found if isinstance(found, (Ring, Pump)) else Controller(found)


def verdict_at(web, state):
    states = reached(web, state)
    found = final_of(web, states)
    if isinstance(found, (Ring, Pump)):
        return found
    return Controller(tuple([rows if at in states else None for at, rows in enumerate(found)]))


def best_table(web):
    frames = move_frames(web)
    before = ()
    layer = first_layer(web)
    many = 0
    # A part of the web that settles at all does so within the bound.
    while before != layer and many <= depth_bound(web):
        before = layer
        layer = next_layer(web, frames, layer)
        many += 1
    still = [rows is not None and rows == earlier for rows, earlier in zip(layer, before)]
    return tuple([
        rows if all([still[at] for at in reached(web, state)]) else None
        for state, rows in enumerate(layer)])


def kept_states(web):
    return tuple([state for state, rows in enumerate(best_table(web)) if rows is not None])


def holds_ever(web, state, values):
    check_values(web, values)
    found = layers_of(web, reached(web, state))
    return is_settled(found) and keeps_rows(found[-1][state], values)
