"""What can be held for some moves, with values in the windows that are to be tried.

The values held at a state are those that keep some rows of differences, so
just the values said are tried one by one, and only those in the window.
"""

from heldalways.bounds import heaviest
from heldalways.errors import Refused
from heldalways.tours import excursion_rows, first_layer, first_rows, keeps_rows, move_frame, next_layer
from heldalways.webs import moves_from, reached

MOST_TRIED = 1000
MOST_TRIED_QUANTITIES = 3
MOST_TRIED_MOVES = 4


def reach_of(web, most):
    others = len(web.quantities) - 1
    free = 1
    tied = 1
    for _ in range(most):
        tied = 1 + tied + others * free
        free = 2 + others * free
    greatest = max([0, *[rule[3] for move in web.moves for rule in move[3]]])
    return (tied - 1) * greatest


def span_of(web, values, most):
    """The least and the greatest new value tried, however many these are."""
    reach = reach_of(web, most)
    return min([0, *values]) - reach, max([0, *values]) + reach


def check_size(web, values, most):
    """Refused if there are too many whole values to try."""
    if len(web.quantities) > MOST_TRIED_QUANTITIES or most > MOST_TRIED_MOVES:
        raise Refused("size")
    low, high = span_of(web, values, most)
    many = 1
    for _ in web.quantities:
        many = many * (high - low + 1)
    if many > MOST_TRIED:
        raise Refused("size")


def window_of(web, values, most):
    check_size(web, values, most)
    return span_of(web, values, most)


def raise_entry(rows, one, other, weight):
    if rows[one][other] is None or rows[one][other] < weight:
        rows[one][other] = weight


def said_rows(web, move, old, told, span):
    """The greatest entries of the rows that just the new values keep that may be said.

    These are let by a move from old values, keep the rows told, and lie in a
    span; None if there are none.
    """
    numbers = (0, *old)
    rows = [list(row) for row in told]
    for kind, one, other, weight in web.moves[move][3]:
        if kind == "rise":
            raise_entry(rows, 0, other, numbers[one] + weight)
        elif kind == "fall":
            raise_entry(rows, other, 0, weight - numbers[one])
        else:
            raise_entry(rows, one, other, weight)
    for at in range(1, len(rows)):
        raise_entry(rows, 0, at, span[0])
        raise_entry(rows, at, 0, -span[1])
    return heaviest(rows)


def least_behind(rows, numbers):
    """The least number that may stand behind those of the ground and of the first quantities."""
    at = len(numbers)
    return max([number + row[at] for number, row in zip(numbers, rows) if row[at] is not None])


def greatest_behind(rows, numbers):
    row = rows[len(numbers)]
    return min([number - entry for number, entry in zip(numbers, row) if entry is not None])


def values_by(rows):
    """All values that keep rows with the greatest entries, with bounds for each number, ascending."""
    found = [(0,)]
    for _ in range(len(rows) - 1):
        found = [(*numbers, number) for numbers in found
                 for number in range(least_behind(rows, numbers), greatest_behind(rows, numbers) + 1)]
    return [numbers[1:] for numbers in found]


def first_by(rows):
    """The first of these values."""
    numbers = (0,)
    while len(numbers) < len(rows):
        numbers = (*numbers, least_behind(rows, numbers))
    return numbers[1:]


def let_answers(web, move, old):
    rows = said_rows(web, move, old, first_rows(web), window_of(web, old, 1))
    return () if rows is None else tuple(values_by(rows))


class Game:
    """The layers of a web at the states reached from one, made as far as they are asked for."""

    def __init__(self, web, state):
        self.web = web
        self.near = reached(web, state)
        self.frames = [move_frame(web, at) if move[1] in self.near else None for at, move in enumerate(web.moves)]
        self.made = [first_layer(web)]


def held_rows(game, state, most):
    """The rows that just the values held for so many moves keep, None if there are none."""
    while len(game.made) <= most:
        game.made.append(next_layer(game.web, game.frames, game.made[-1], game.near))
    return game.made[most][state]


def is_held(game, state, values, most):
    rows = held_rows(game, state, most)
    return rows is not None and keeps_rows(rows, values)


def can_hold(web, state, values, most):
    check_size(web, values, most)
    return is_held(Game(web, state), state, values, most)


def can_follow(web, values, script):
    check_size(web, values, len(script))
    rows = first_rows(web)
    for move in reversed(script):
        rows = excursion_rows(move_frame(web, move), rows)
        if rows is None:
            return False
    return keeps_rows(rows, values)


def right_rows(game, move, old, most):
    """The rows of the right answers to a move in the window of the old values, None if there are none."""
    told = held_rows(game, game.web.moves[move][2], most)
    if told is None:
        return None
    return said_rows(game.web, move, old, told, span_of(game.web, old, most + 1))


def right_answers(web, move, old, most):
    check_size(web, old, most + 1)
    rows = right_rows(Game(web, web.moves[move][2]), move, old, most)
    return () if rows is None else tuple(values_by(rows))


def beats(game, move, values, most):
    """Whether no new values are let by a move and held for so many more."""
    told = held_rows(game, game.web.moves[move][2], most)
    asked = None if told is None else excursion_rows(game.frames[move], told)
    return asked is None or not keeps_rows(asked, values)


def beating_moves(web, state, values, most):
    check_size(web, values, most)
    if most == 0:
        return ()
    game = Game(web, state)
    return tuple([move for move in moves_from(web, state) if beats(game, move, values, most - 1)])


def least_moves(web, state, values, most):
    check_size(web, values, most)
    game = Game(web, state)
    for many in range(most + 1):
        if not is_held(game, state, values, many):
            return many
    return None


def first_run(web, position, script, most):
    state, old = position
    check_size(web, old, most)
    game = Game(web, state)
    steps = []
    for at, move in enumerate(script):
        rows = right_rows(game, move, old, most - at - 1)
        if rows is None:
            return None
        old = first_by(rows)
        steps.append((move, old))
    return position, tuple(steps)
