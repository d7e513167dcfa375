"""What is held for ever by a controller who knows some moves ahead."""

from heldalways.answers import some_answer
from heldalways.bounds import heaviest
from heldalways.court import best_table
from heldalways.errors import Refused
from heldalways.hidden import both_rows
from heldalways.sight import scripts_ahead, sight_web, sighted_run
from heldalways.steps import end_state, run_by, script_of
from heldalways.tables import keeps_table
from heldalways.webs import check_values


def rows_of_all(rows):
    """The rows that all of some closed rows ask for together, None if one lacks or no values keep them."""
    if None in rows:
        return None
    joint = rows[0]
    for other in rows[1:]:
        joint = both_rows(joint, other)
    return heaviest(joint)


def sight_table(web, sight):
    wide, pairs, _ = sight_web(web, sight)
    told = best_table(wide)
    return tuple([
        rows_of_all([rows for (place, _), rows in zip(pairs, told) if place == state])
        for state in range(len(web.states))])


def lost_among(pairs, told, state, values):
    """The pairs of a state at which values do not keep the table of the web of pairs."""
    return [pair for at, pair in enumerate(pairs) if pair[0] == state and not keeps_table(told, at, values)]


def lost_pairs(web, state, values, sight):
    """The pairs of a state at which values are not held for ever."""
    wide, pairs, _ = sight_web(web, sight)
    return lost_among(pairs, best_table(wide), state, values)


def holds_seeing(web, state, values, sight):
    check_values(web, values)
    return lost_pairs(web, state, values, sight) == []


def least_sight(web, state, values, most):
    for sight in range(most + 1):
        if lost_pairs(web, state, values, sight) == []:
            return sight
    return None


def lost_script(web, state, values, sight):
    lost = lost_pairs(web, state, values, sight)
    return None if lost == [] else lost[0][1]


def seeing_run(web, position, script, sight):
    state, values = position
    wide, pairs, _ = sight_web(web, sight)
    told = best_table(wide)
    if lost_among(pairs, told, state, values) != []:
        raise Refused("held")
    # Which moves of the web of pairs come hangs on the script alone, not on what is said.
    ahead = scripts_ahead(web, end_state(web, state, script), sight)[0]
    silent = run_by(position, script, [values] * len(script))
    said = []
    for move in script_of(sighted_run(web, sight, silent, ahead)):
        values = some_answer(wide, told, values, move)
        said.append(values)
    return run_by(position, script, said)
