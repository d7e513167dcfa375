"""What is held for some moves by a controller who knows some of them ahead."""

from heldalways.bounds import heaviest
from heldalways.games import check_size
from heldalways.hidden import both_rows
from heldalways.sight import longer_scripts, scripts_ahead
from heldalways.tours import excursion_rows, first_rows, keeps_rows, move_frames


class Ahead:
    """The rows held by a controller with a sight, kept by state, script known and moves left."""

    def __init__(self, web, sight):
        self.web = web
        self.sight = sight
        self.frames = move_frames(web)
        self.found = {}


def scripts_known(ahead, state, script, most):
    """The scripts that may be known when the first move of a script has come."""
    if len(script) < most:
        return longer_scripts(ahead.web, state, script)
    return [script]


def rows_known(ahead, state, script, most):
    """The rows that just the values held for so many moves keep if a script is known; None if none are."""
    key = (state, script, most)
    if key not in ahead.found:
        ahead.found[key] = rows_for(ahead, state, script, most)
    return ahead.found[key]


def rows_for(ahead, state, script, most):
    rows = first_rows(ahead.web)
    for known in scripts_known(ahead, state, script, most):
        if known != ():
            end = ahead.web.moves[known[0]][2]
            told = rows_known(ahead, end, known[1:], most - 1)
            asked = None if told is None else excursion_rows(ahead.frames[known[0]], told)
            if asked is None:
                return None
            rows = both_rows(rows, asked)
    return heaviest(rows)


def can_hold_seeing(web, state, values, most, sight):
    check_size(web, values, most)
    scripts = scripts_ahead(web, state, min(sight, most))
    ahead = Ahead(web, sight)
    found = [rows_known(ahead, state, script, most) for script in scripts]
    return all([rows is not None and keeps_rows(rows, values) for rows in found])
