"""Bands of amounts: what a controller may see who is not told the amount itself."""

from heldalways.amounts import corner_web, corners_in, weight_at
from heldalways.court import best_table
from heldalways.errors import Refused
from heldalways.halving import greatest_up_to
from heldalways.kinds import is_within
from heldalways.tables import broken_move
from heldalways.webs import MOST_MOVES, Web


def are_bands(amount_web, move, place, value):
    low, high = amount_web.moves[move][3][place]
    if not isinstance(value, tuple) or not all([is_within(amount, low, high) for amount in value]):
        return False
    return value != () and value[0] == low and list(value) == sorted(set(value))


def other_corners(ranges, place):
    """The corners of all ranges but one."""
    return corners_in((*ranges[:place], *ranges[place + 1:]))


def band_moves(amount_web, move, place, first, last):
    """The moves for the band of a range from one amount to another, one for each corner of the other ranges."""
    name, start, end, ranges, rules = amount_web.moves[move]
    moves = []
    for corner in other_corners(ranges, place):
        # A weight is greatest at an end of the band.
        ends = [(*corner[:place], amount, *corner[place:]) for amount in (first, last)]
        sharp = [(*rule[:3], max([weight_at(rule, amounts) for amounts in ends])) for rule in rules]
        moves.append((name, start, end, tuple(sharp)))
    return moves


def moves_ahead(amount_web, move):
    """How many moves of the corner web belong to moves that come before one."""
    return sum([len(corners_in(ranges)) for _, _, _, ranges, _ in amount_web.moves[:move]])


def check_many(amount_web, move, place, many):
    """Refused if the web would have too many moves with so many bands."""
    ranges = amount_web.moves[move][3]
    others = moves_ahead(amount_web, len(amount_web.moves)) - len(corners_in(ranges))
    if others + many * len(other_corners(ranges, place)) > MOST_MOVES:
        raise Refused("size")


def banded_web(amount_web, move, place, bands):
    check_many(amount_web, move, place, len(bands))
    plain = corner_web(amount_web)
    _, high = amount_web.moves[move][3][place]
    begin = moves_ahead(amount_web, move)
    moves = list(plain.moves[:begin])
    for first, behind in zip(bands, (*bands[1:], high + 1)):
        moves.extend(band_moves(amount_web, move, place, first, behind - 1))
    moves.extend(plain.moves[moves_ahead(amount_web, move + 1):])
    return Web(plain.quantities, plain.states, tuple(moves))


def is_held_band(amount_web, move, place, first, last, table):
    """Whether a table is right for the moves of a band."""
    moves = band_moves(amount_web, move, place, first, last)
    return broken_move(Web(amount_web.quantities, amount_web.states, tuple(moves)), table) is None


def longest_band(amount_web, move, place, first, table):
    """The last amount of the longest band from an amount on for which a table is right."""
    _, high = amount_web.moves[move][3][place]
    return greatest_up_to(first, high, lambda last: is_held_band(amount_web, move, place, first, last, table))


def fewest_bands(amount_web, move, place):
    low, high = amount_web.moves[move][3][place]
    table = best_table(corner_web(amount_web))
    bands = [low]
    last = longest_band(amount_web, move, place, low, table)
    while last < high:
        bands.append(last + 1)
        check_many(amount_web, move, place, len(bands))
        last = longest_band(amount_web, move, place, last + 1, table)
    return tuple(bands)
