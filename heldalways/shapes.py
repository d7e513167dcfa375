"""Webs that hold the same values, and webs with changed values."""

from heldalways.errors import InvalidNumber, Refused
from heldalways.kinds import is_integer
from heldalways.webs import MOST_WEIGHT, Web, moves_from, sharp_rules, with_rules


def numbered(keys):
    """The number of each key among the unlike ones, in the sequence in which they come first."""
    numbers = {}
    for key in keys:
        if key not in numbers:
            numbers[key] = len(numbers)
    return tuple([numbers[key] for key in keys])


def lot_numbers(web):
    """The number of the lot of alike states of each state."""
    sharp = [sharp_rules(move[3]) for move in web.moves]
    numbers = (0,) * len(web.states)
    while True:
        keys = []
        for state, number in enumerate(numbers):
            seen = sorted(set([(sharp[at], numbers[web.moves[at][2]]) for at in moves_from(web, state)]))
            keys.append((number, tuple(seen)))
        finer = numbered(keys)
        if finer == numbers:
            return numbers
        numbers = finer


def lots_by(numbers):
    """The lots of the places with the same number, by the numbers from 0 on."""
    many = max(numbers) + 1 if numbers else 0
    return tuple([tuple([at for at, number in enumerate(numbers) if number == lot]) for lot in range(many)])


def alike_states(web):
    return lots_by(lot_numbers(web))


def joined_states(web):
    numbers = lot_numbers(web)
    least = [lot[0] for lot in lots_by(numbers)]
    moves = []
    for name, start, end, rules in web.moves:
        if start in least:
            moves.append((name, numbers[start], numbers[end], rules))
    states = tuple([web.states[state] for state in least])
    return Web(web.quantities, states, tuple(moves)), numbers


def asks_more(sharp, other):
    """Whether for each rule of the other sharp ones one with no lesser weight is there."""
    weights = {rule[:3]: rule[3] for rule in sharp}
    return all([rule[:3] in weights and weights[rule[:3]] >= rule[3] for rule in other])


def idle_moves(web):
    numbers = lot_numbers(web)
    sharp = [sharp_rules(move[3]) for move in web.moves]
    idle = []
    for at, move in enumerate(web.moves):
        for one, stand in enumerate(web.moves):
            alike = stand[1] == move[1] and numbers[stand[2]] == numbers[move[2]]
            if alike and asks_more(sharp[one], sharp[at]):
                if at not in idle and (one < at or not asks_more(sharp[at], sharp[one])):
                    idle.append(at)
    return tuple(idle)


def pieces_of(web):
    numbers = list(range(len(web.quantities) + 1))
    for move in web.moves:
        for _, one, other, _ in move[3]:
            if one > 0 and other > 0:
                kept, gone = numbers[one], numbers[other]
                numbers = [kept if number == gone else number for number in numbers]
    pieces = lots_by(numbered(numbers[1:]))
    return tuple([tuple([at + 1 for at in piece]) for piece in pieces])


def web_of(web, lot):
    points = (0, *lot)
    moves = []
    for name, start, end, rules in web.moves:
        kept = [(kind, points.index(one), points.index(other), weight)
                for kind, one, other, weight in rules if one in points and other in points]
        moves.append((name, start, end, tuple(kept)))
    return Web(values_of(web.quantities, lot), web.states, tuple(moves))


def turned_rule(rule):
    kind, one, other, weight = rule
    if kind == "now":
        return ("now", other, one, weight)
    return ("fall" if kind == "rise" else "rise", one, other, weight)


def turned_web(web):
    return with_rules(web, [tuple([turned_rule(rule) for rule in move[3]]) for move in web.moves])


def checked_web(web, rules):
    """The web with the rules of each move, or refused for a weight that is too great."""
    for row in rules:
        for rule in row:
            if abs(rule[3]) > MOST_WEIGHT:
                raise Refused("size")
    return with_rules(web, rules)


def moved_rule(rule, origins):
    kind, one, other, weight = rule
    rise = origins[other] - origins[one]
    return (kind, one, other, weight - rise if kind == "fall" else weight + rise)


def moved_web(web, shifts):
    origins = (0, *shifts)
    return checked_web(web, [tuple([moved_rule(rule, origins) for rule in move[3]]) for move in web.moves])


def stretched_web(web, factor):
    if not is_integer(factor) or factor < 1:
        raise InvalidNumber("factor")
    return checked_web(web, [tuple([(*rule[:3], rule[3] * factor) for rule in move[3]]) for move in web.moves])


def turned_values(values):
    return tuple([-number for number in values])


def moved_values(values, shifts):
    return tuple([number + shift for number, shift in zip(values, shifts)])


def stretched_values(values, factor):
    return tuple([number * factor for number in values])


def placed_values(values, places):
    found = [0] * len(values)
    for number, place in zip(values, places[1:]):
        found[place - 1] = number
    return tuple(found)


def values_of(values, lot):
    return tuple([values[quantity - 1] for quantity in lot])
