"""Steps, positions, scripts and runs."""

from heldalways.errors import InvalidRun
from heldalways.kinds import is_index, is_tuple_of, is_tuple_up_to
from heldalways.webs import are_values

MOST_STEPS = 100


def is_kept(rule, old, new):
    """Whether old and new values, each with the ground's 0 in front, keep a rule."""
    kind, one, other, weight = rule
    if kind == "rise":
        return new[other] - old[one] >= weight
    if kind == "fall":
        return old[one] - new[other] >= weight
    return new[other] - new[one] >= weight


def broken_rules(web, move, old, new):
    before = (0, *old)
    behind = (0, *new)
    rules = web.moves[move][3]
    return tuple([at for at, rule in enumerate(rules) if not is_kept(rule, before, behind)])


def is_let(web, move, old, new):
    return broken_rules(web, move, old, new) == ()


def is_position(web, value):
    return is_tuple_of(value, 2) and is_index(value[0], len(web.states)) and are_values(web, value[1])


def starts_at(web, state, value):
    """Whether any value is the number of a move that starts at a state."""
    return is_index(value, len(web.moves)) and web.moves[value][1] == state


def is_script(web, state, value):
    if not is_tuple_up_to(value, MOST_STEPS):
        return False
    for move in value:
        if not starts_at(web, state, move):
            return False
        state = web.moves[move][2]
    return True


def end_state(web, state, script):
    for move in script:
        state = web.moves[move][2]
    return state


def is_step(web, state, value):
    return is_tuple_of(value, 2) and starts_at(web, state, value[0]) and are_values(web, value[1])


def wrong_step(web, value):
    """The place that InvalidRun tells, None for a run."""
    if not is_tuple_of(value, 2) or not is_tuple_up_to(value[1], MOST_STEPS):
        return -2
    if not is_position(web, value[0]):
        return -1
    state = value[0][0]
    for at, step in enumerate(value[1]):
        if not is_step(web, state, step):
            return at
        state = web.moves[step[0]][2]
    return None


def check_run(web, value):
    wrong = wrong_step(web, value)
    if wrong is not None:
        raise InvalidRun(wrong)


def is_run(web, value, kept=True):
    if wrong_step(web, value) is not None:
        return False
    return kept is not True or first_break(web, value) is None


def positions_of(web, run):
    position, steps = run
    return (position, *[(web.moves[move][2], said) for move, said in steps])


def script_of(run):
    return tuple([move for move, _ in run[1]])


def said_in(run):
    return tuple([said for _, said in run[1]])


def run_by(position, script, said):
    return (position, tuple(zip(script, said)))


def first_break(web, run):
    old = run[0][1]
    for at, (move, new) in enumerate(run[1]):
        if not is_let(web, move, old, new):
            return at
        old = new
    return None
