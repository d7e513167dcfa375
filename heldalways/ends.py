"""Which ends of the ranges of amounts matter, and how far a range may go."""

from heldalways.amounts import AmountWeb, corner_web
from heldalways.court import best_table, holds_ever
from heldalways.errors import InvalidWeb, Refused
from heldalways.halving import greatest_up_to
from heldalways.webs import check_values, without_moves


def lean_corners(amount_web):
    web = corner_web(amount_web)
    table = best_table(web)
    left_out = ()
    # A move that is missed once is missed, too, when further ones are left out.
    for move in range(len(web.moves)):
        if best_table(without_moves(web, (*left_out, move))) == table:
            left_out = (*left_out, move)
    return tuple([move for move in range(len(web.moves)) if move not in left_out])


def with_high(amount_web, move, place, high):
    """The web in which a range has another high end; refused if it is none."""
    name, start, end, ranges, rules = amount_web.moves[move]
    wider = (*ranges[:place], (ranges[place][0], high), *ranges[place + 1:])
    moves = (*amount_web.moves[:move], (name, start, end, wider, rules), *amount_web.moves[move + 1:])
    try:
        return AmountWeb(amount_web.quantities, amount_web.states, moves)
    except InvalidWeb:
        raise Refused("size") from None


def is_held_up_to(amount_web, move, place, state, values, high):
    return holds_ever(corner_web(with_high(amount_web, move, place, high)), state, values)


def greatest_amount(amount_web, move, place, state, values, most):
    with_high(amount_web, move, place, most)
    check_values(amount_web, values)
    low, _ = amount_web.moves[move][3][place]
    if not is_held_up_to(amount_web, move, place, state, values, low):
        return None
    return greatest_up_to(low, most, lambda high: is_held_up_to(amount_web, move, place, state, values, high))
