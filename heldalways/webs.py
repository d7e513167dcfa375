"""Webs: quantities, states, and moves with rules; values of webs."""

from heldalways.errors import InvalidValues, InvalidWeb, Refused
from heldalways.kinds import are_names, is_index, is_kind, is_lot_of_names, is_name
from heldalways.kinds import is_tuple_of, is_tuple_up_to, is_within

MOST_QUANTITIES = 6
MOST_STATES = 8
MOST_MOVES = 40
MOST_RULES = 30
MOST_WEIGHT = 1000000
MOST_VALUE = 1000000000


def is_weight(value):
    return is_within(value, -MOST_WEIGHT, MOST_WEIGHT)


def has_points(kind, one, other, quantities):
    """Whether any three values begin a rule about so many quantities."""
    return is_kind(kind) and is_index(one, quantities + 1) and is_index(other, quantities + 1)


def is_rule(quantities, value):
    if not is_tuple_of(value, 4):
        return False
    kind, one, other, weight = value
    return has_points(kind, one, other, quantities) and is_weight(weight)


def has_ends(name, start, end, states):
    """Whether any three values begin a move between so many states."""
    return is_name(name) and is_index(start, states) and is_index(end, states)


def is_move(quantities, states, value):
    """Whether any value is a move of a web with so many quantities and states."""
    if not is_tuple_of(value, 4):
        return False
    name, start, end, rules = value
    if not has_ends(name, start, end, states) or not is_tuple_up_to(rules, MOST_RULES):
        return False
    return all([is_rule(quantities, rule) for rule in rules])


def wrong_part(quantities, states, moves, fits):
    """The place that InvalidWeb tells, None if nothing is wrong; fits judges one move."""
    if not is_lot_of_names(quantities, 0, MOST_QUANTITIES):
        return -3
    if not is_lot_of_names(states, 1, MOST_STATES):
        return -2
    if not is_tuple_up_to(moves, MOST_MOVES):
        return -1
    for at, move in enumerate(moves):
        if not fits(len(quantities), len(states), move):
            return at
    return None


class Web:
    """A plant: two lots of names, and the moves between the states."""

    def __init__(self, quantities, states, moves):
        wrong = wrong_part(quantities, states, moves, is_move)
        if wrong is not None:
            raise InvalidWeb(wrong)
        self.quantities = quantities
        self.states = states
        self.moves = moves

    def __eq__(self, other):
        return (isinstance(other, Web) and self.quantities == other.quantities
                and self.states == other.states and self.moves == other.moves)


def place_of(names, name):
    """The place of any value in a tuple of names, None if it has none."""
    if not is_name(name) or name not in names:
        return None
    return names.index(name)


def quantity_number(web, name):
    place = place_of(web.quantities, name)
    if place is None:
        raise Refused("quantity")
    return place + 1


def state_number(web, name):
    place = place_of(web.states, name)
    if place is None:
        raise Refused("state")
    return place


def moves_from(web, state):
    return tuple([at for at, move in enumerate(web.moves) if move[1] == state])


def moves_to(web, state):
    return tuple([at for at, move in enumerate(web.moves) if move[2] == state])


def moves_named(web, name):
    return tuple([at for at, move in enumerate(web.moves) if move[0] == name])


def reached(web, state):
    found = [state]
    done = 0
    while done < len(found):
        for move in web.moves:
            if move[1] == found[done] and move[2] not in found:
                found.append(move[2])
        done += 1
    return tuple(sorted(found))


def plain_rule(rule):
    kind, one, other, weight = rule
    if one == other and (kind == "now" or one == 0):
        return ("now", 0, 0, weight)
    if kind == "rise" and one == 0:
        return ("now", 0, other, weight)
    if kind == "fall" and one == 0:
        return ("now", other, 0, weight)
    return rule


def sharp_rules(rules):
    greatest = {}
    for rule in rules:
        kind, one, other, weight = plain_rule(rule)
        begun = (kind, one, other)
        if begun not in greatest or greatest[begun] < weight:
            greatest[begun] = weight
    sharp = [(*begun, greatest[begun]) for begun in sorted(greatest)]
    return tuple([rule for rule in sharp if rule[:3] != ("now", 0, 0) or rule[3] > 0])


def with_rules(web, rules):
    """The web in which each move has the tuple of rules that stands in its place."""
    moves = [(*move[:3], rules[at]) for at, move in enumerate(web.moves)]
    return Web(web.quantities, web.states, tuple(moves))


def with_rules_behind(web, rules):
    """The web in which each move has these rules, too, behind its own; refused for too many."""
    if any([len(move[3]) + len(rules) > MOST_RULES for move in web.moves]):
        raise Refused("size")
    return with_rules(web, [(*move[3], *rules) for move in web.moves])


def sharpest(web):
    return with_rules(web, [sharp_rules(move[3]) for move in web.moves])


def without_moves(web, moves):
    kept = [move for at, move in enumerate(web.moves) if at not in moves]
    return Web(web.quantities, web.states, tuple(kept))


def with_move(web, move):
    if not is_move(len(web.quantities), len(web.states), move):
        raise Refused("move")
    if len(web.moves) == MOST_MOVES:
        raise Refused("size")
    return Web(web.quantities, web.states, (*web.moves, move))


def renamed_web(web, quantities, states):
    if not are_names(quantities, len(web.quantities)):
        raise Refused("quantities")
    if not are_names(states, len(web.states)):
        raise Refused("states")
    names = tuple(sorted(quantities))
    stops = tuple(sorted(states))
    places = (0, *[names.index(name) + 1 for name in quantities])
    ends = tuple([stops.index(name) for name in states])
    moves = []
    for name, start, end, rules in web.moves:
        placed = [(kind, places[one], places[other], weight) for kind, one, other, weight in rules]
        moves.append((name, ends[start], ends[end], tuple(placed)))
    return Web(names, stops, tuple(moves)), places, ends


def is_value(number):
    """Whether any value is one of values."""
    return is_within(number, -MOST_VALUE, MOST_VALUE)


def wrong_value(web, value):
    """The place that InvalidValues tells, None for values."""
    if not is_tuple_of(value, len(web.quantities)):
        return -1
    for at, number in enumerate(value):
        if not is_value(number):
            return at
    return None


def check_values(web, value):
    wrong = wrong_value(web, value)
    if wrong is not None:
        raise InvalidValues(wrong)


def are_values(web, value):
    return wrong_value(web, value) is None
