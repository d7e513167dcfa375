"""What can be held for some moves, found by trying whole values."""

from heldalways.boxes import answer_marks, next_held
from heldalways.errors import Refused
from heldalways.steps import is_let
from heldalways.webs import moves_from, sharpest

MOST_TRIED = 1000
MOST_TRIED_QUANTITIES = 3
MOST_TRIED_MOVES = 4


def reach_of(web, most):
    others = len(web.quantities) - 1
    free = 1
    tied = 1
    for _ in range(most):
        tied = 1 + tied + others * free
        free = 2 + others * free
    greatest = max([0, *[rule[3] for move in web.moves for rule in move[3]]])
    return (tied - 1) * greatest


def wider(web, span, most):
    """A span with all integers within reach of it when so many moves may come."""
    reach = reach_of(web, most)
    return span[0] - reach, span[1] + reach


def span_around(values):
    """The span of values and of the ground."""
    return min([0, *values]), max([0, *values])


def span_of(web, values, most):
    """The least and the greatest new value tried, however many these are."""
    return wider(web, span_around(values), most)


def check_size(web, values, most):
    """Refused if there are too many whole values to try."""
    if len(web.quantities) > MOST_TRIED_QUANTITIES or most > MOST_TRIED_MOVES:
        raise Refused("size")
    low, high = span_of(web, values, most)
    many = 1
    for _ in web.quantities:
        many = many * (high - low + 1)
    if many > MOST_TRIED:
        raise Refused("size")


def window_of(web, values, most):
    check_size(web, values, most)
    return span_of(web, values, most)


def rows_between(span, many):
    """All values of so many quantities in a span, ascending."""
    rows = [()]
    for _ in range(many):
        rows = [(*row, number) for row in rows for number in range(span[0], span[1] + 1)]
    return rows


def rows_tried(web, values, most):
    return rows_between(span_of(web, values, most), len(web.quantities))


def let_answers(web, move, old):
    check_size(web, old, 1)
    return tuple([new for new in rows_tried(web, old, 1) if is_let(web, move, old, new)])


class Trial:
    """All whole values that may be said from some values on, within so many moves.

    Marks are as in boxes: `answers` has for each move and each row the mark
    of the rows let, `held` for each number of moves and each state that of
    the rows held. It tells too few for rows further out than those that may
    come with so many moves left: some of their answers lie outside.
    """

    def __init__(self, web, values, most):
        span = span_around(values)
        for left in range(most, 0, -1):
            span = wider(web, span, left)
        many = len(web.quantities)
        self.rows = rows_between(span, many)
        self.places = {row: at for at, row in enumerate(self.rows)}
        self.answers = answer_marks(sharpest(web), (span,) * many, self.rows)
        self.held = [[(1 << len(self.rows)) - 1] * len(web.states)]
        for _ in range(most):
            self.held.append(next_held(web, self.answers, self.held[-1]))


def is_held(trial, state, values, most):
    return (trial.held[most][state] >> trial.places[values]) & 1 == 1


def answers_held(web, trial, move, old, most):
    """The mark of the answers to a move that are held for so many more."""
    return trial.answers[move][trial.places[old]] & trial.held[most][web.moves[move][2]]


def can_hold(web, state, values, most):
    check_size(web, values, most)
    return is_held(Trial(web, values, most), state, values, most)


def can_follow(web, values, script):
    check_size(web, values, len(script))
    trial = Trial(web, values, len(script))
    right = 1 << trial.places[values]
    for move in script:
        answers = [answer for at, answer in enumerate(trial.answers[move]) if (right >> at) & 1]
        right = 0
        for answer in answers:
            right = right | answer
    return right > 0


def right_answers(web, move, old, most):
    check_size(web, old, most + 1)
    return some_right(web, Trial(web, old, most + 1), move, old, most)


def some_right(web, trial, move, old, most):
    """The right answers to a move in the window of the old values."""
    mark = answers_held(web, trial, move, old, most)
    return tuple([row for row in rows_tried(web, old, most + 1) if (mark >> trial.places[row]) & 1])


def beating_moves(web, state, values, most):
    check_size(web, values, most)
    if most == 0:
        return ()
    trial = Trial(web, values, most)
    return tuple([move for move in moves_from(web, state) if answers_held(web, trial, move, values, most - 1) == 0])


def least_moves(web, state, values, most):
    check_size(web, values, most)
    trial = Trial(web, values, most)
    for many in range(most + 1):
        if not is_held(trial, state, values, many):
            return many
    return None


def first_run(web, position, script, most):
    check_size(web, position[1], most)
    trial = Trial(web, position[1], most)
    old = position[1]
    steps = []
    for at, move in enumerate(script):
        right = some_right(web, trial, move, old, most - at - 1)
        if right == ():
            return None
        old = right[0]
        steps.append((move, old))
    return position, tuple(steps)
