"""What is held for ever: a controller, or a ring or a pump that shows why there is none."""

from heldalways.pumps import Pump, Ring, is_pump, is_ring_paper
from heldalways.settle import final_of, final_rows, first_pump, is_settled, layers_of
from heldalways.tables import is_table
from heldalways.tours import every_state, keeps_rows
from heldalways.webs import check_values, reached


class Controller:
    """Who answers so that a table is kept."""

    def __init__(self, table):
        self.table = table


def paper_state(web, paper):
    if isinstance(paper, Pump):
        return paper.excursions[paper.outer][0]
    return paper.state if paper.move is None else web.moves[paper.move][1]


def is_paper(web, value):
    """Whether any value is a right ring or pump."""
    return is_ring_paper(web, value) or is_pump(web, value)


def is_paper_at(web, state, value):
    """Whether any value is a right ring or pump whose place is reached from a state."""
    return is_paper(web, value) and paper_state(web, value) in reached(web, state)


def is_controller(web, value):
    return isinstance(value, Controller) and is_table(web, value.table)


def is_verdict(web, value):
    if is_controller(web, value):
        return None not in value.table
    return is_paper(web, value)


def is_verdict_at(web, state, value):
    if is_controller(web, value):
        return value.table[state] is not None
    return is_paper_at(web, state, value)


def court(web):
    found = final_rows(web)
    return found if isinstance(found, (Ring, Pump)) else Controller(found)


def verdict_at(web, state):
    states = reached(web, state)
    found = final_of(web, states)
    if isinstance(found, (Ring, Pump)):
        return found
    return Controller(tuple([rows if at in states else None for at, rows in enumerate(found)]))


def lost_states(web, states, found):
    """Those of some states at which no values are held for ever, as far as their last layers tell."""
    if None not in found[-1]:
        return [paper_state(web, first_pump(web, states))]
    return [state for state in states if found[-1][state] is None]


def best_table(web):
    states = every_state(web)
    found = layers_of(web, states)
    while not is_settled(found):
        lost = lost_states(web, states, found)
        states = tuple([state for state in states if not any([at in lost for at in reached(web, state)])])
        found = layers_of(web, states)
    return tuple([rows if state in states else None for state, rows in enumerate(found[-1])])


def kept_states(web):
    return tuple([state for state, rows in enumerate(best_table(web)) if rows is not None])


def holds_ever(web, state, values):
    check_values(web, values)
    found = layers_of(web, reached(web, state))
    return is_settled(found) and keeps_rows(found[-1][state], values)
