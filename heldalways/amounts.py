"""Webs whose moves bring amounts."""

from heldalways.errors import InvalidWeb
from heldalways.kinds import is_tuple_of, is_tuple_up_to, is_within
from heldalways.webs import MOST_RULES, Web, has_ends, has_points, is_weight, wrong_part

MOST_RANGES = 3
MOST_CORNERS = 40


def is_range(value):
    if not is_tuple_of(value, 2):
        return False
    low, high = value
    return is_weight(low) and is_weight(high) and low <= high


def corners_in(ranges):
    """The lot of amounts each of which is an end of its range."""
    corners = [()]
    for low, high in ranges:
        ends = [low] if low == high else [low, high]
        corners = [(*corner, end) for corner in corners for end in ends]
    return tuple(corners)


def weight_at(rule, amounts):
    return rule[3] + sum([share * amount for share, amount in zip(rule[4], amounts)])


def is_amount_rule(quantities, corners, value):
    """Whether any value is a rule of a move with these corners."""
    if not is_tuple_of(value, 5):
        return False
    kind, one, other, weight, shares = value
    if not has_points(kind, one, other, quantities) or not is_weight(weight):
        return False
    if not is_tuple_of(shares, len(corners[0])) or not all([is_weight(share) for share in shares]):
        return False
    return all([is_weight(weight_at(value, corner)) for corner in corners])


def is_amount_move(quantities, states, value):
    if not is_tuple_of(value, 5):
        return False
    name, start, end, ranges, rules = value
    if not has_ends(name, start, end, states) or not is_tuple_up_to(rules, MOST_RULES):
        return False
    if not is_tuple_up_to(ranges, MOST_RANGES) or not all([is_range(pair) for pair in ranges]):
        return False
    corners = corners_in(ranges)
    return all([is_amount_rule(quantities, corners, rule) for rule in rules])


class AmountWeb:
    """A plant whose moves bring amounts that are seen before new values are said."""

    def __init__(self, quantities, states, moves):
        wrong = wrong_part(quantities, states, moves, is_amount_move)
        if wrong is not None:
            raise InvalidWeb(wrong)
        if sum([len(corners_in(move[3])) for move in moves]) > MOST_CORNERS:
            raise InvalidWeb(-4)
        self.quantities = quantities
        self.states = states
        self.moves = moves

    def __eq__(self, other):
        return (isinstance(other, AmountWeb) and self.quantities == other.quantities
                and self.states == other.states and self.moves == other.moves)


def corners_of(amount_web, move):
    return corners_in(amount_web.moves[move][3])


def are_amounts(amount_web, move, value):
    ranges = amount_web.moves[move][3]
    if not is_tuple_of(value, len(ranges)):
        return False
    return all([is_within(amount, low, high) for amount, (low, high) in zip(value, ranges)])


def rules_at(amount_web, move, amounts):
    rules = amount_web.moves[move][4]
    return tuple([(*rule[:3], weight_at(rule, amounts)) for rule in rules])


def corner_places(amount_web):
    return tuple([
        (move, corner) for move in range(len(amount_web.moves)) for corner in corners_of(amount_web, move)])


def web_of_places(amount_web, places):
    """The web with a move for each of some pairs of a move and amounts."""
    moves = [(*amount_web.moves[move][:3], rules_at(amount_web, move, amounts)) for move, amounts in places]
    return Web(amount_web.quantities, amount_web.states, tuple(moves))


def corner_web(amount_web):
    return web_of_places(amount_web, corner_places(amount_web))


def web_at(amount_web, picked):
    return web_of_places(amount_web, list(enumerate(picked)))


def unseen_web(amount_web):
    moves = []
    for at, (name, start, end, _, rules) in enumerate(amount_web.moves):
        corners = corners_of(amount_web, at)
        # A weight is greatest at a corner.
        sharp = [(*rule[:3], max([weight_at(rule, corner) for corner in corners])) for rule in rules]
        moves.append((name, start, end, tuple(sharp)))
    return Web(amount_web.quantities, amount_web.states, tuple(moves))
