"""Attacks played: which move comes, and what goes on behind it."""

from heldalways.attacks import Heavy, March, Surge, is_too_heavy, surge_weight
from heldalways.errors import Refused
from heldalways.excursions import tours_in
from heldalways.levelled import nest_between
from heldalways.pumps import Pump, pump_gain
from heldalways.steps import is_let


def heavy_among(items, numbers, state, values):
    """The attack with the first of some items at a state that asks for more than values give."""
    for number in numbers:
        if is_too_heavy(items[number], items[number][4], state, values):
            return Heavy(items, number)
    return None


def surge_of(pump, values):
    """The surge of the outer item of a pump, at the state of its label, with as few rounds as beat values."""
    items = pump.excursions
    numbers = (0, *values)
    _, one, other, _, weight, _, _ = items[pump.outer]
    lack = numbers[other] - numbers[one] - weight
    rounds = 1 if lack < 0 else lack // pump_gain(pump) + 2
    return Surge(items, tuple(nest_between(items, pump.outer, pump.inner)), 0, rounds)


def begun_attack(state, values, attack):
    """The same attack, as one of an item if it is a march at its place."""
    if not isinstance(attack, March) or attack.script != ():
        return attack
    paper = attack.paper
    if isinstance(paper, Pump):
        return surge_of(paper, values)
    return heavy_among(paper.excursions, tours_in(paper.steps), state, values)


def move_of(attack):
    """The move that an attack picks that is begun."""
    if isinstance(attack, March):
        return attack.script[0]
    number = attack.at if isinstance(attack, Heavy) else attack.nest[attack.place]
    return attack.excursions[number][5]


def attack_move(web, state, values, attack):
    return move_of(begun_attack(state, values, attack))


def march_behind(attack, state, said):
    """The attack behind the first move of a script."""
    paper = attack.paper
    if len(attack.script) == 1 and not isinstance(paper, Pump) and paper.move is not None:
        return heavy_among(paper.excursions, tours_in(paper.steps), state, said)
    return March(attack.script[1:], paper)


def next_surge(surge):
    """The surge that stands where a surge has the next item of its nest; None for the item itself."""
    if surge.place + 2 < len(surge.nest):
        return Surge(surge.excursions, surge.nest, surge.place + 1, surge.rounds)
    return None if surge.rounds == 1 else Surge(surge.excursions, surge.nest, 0, surge.rounds - 1)


def surge_behind(surge, state, said):
    """The attack behind the move of a surge."""
    items = surge.excursions
    inner = surge.nest[surge.place + 1]
    replaced = next_surge(surge)
    # The surge weighs no less than the item in whose place it stands: if it is not too heavy, neither is this.
    if replaced is not None and is_too_heavy(items[inner], surge_weight(replaced), state, said):
        return replaced
    return heavy_among(items, tours_in(items[surge.nest[surge.place]][6]), state, said)


def attack_behind(web, state, values, attack, said):
    begun = begun_attack(state, values, attack)
    move = move_of(begun)
    if not is_let(web, move, values, said):
        raise Refused("broken")
    end = web.moves[move][2]
    if isinstance(begun, March):
        return march_behind(begun, end, said)
    if isinstance(begun, Surge):
        return surge_behind(begun, end, said)
    return heavy_among(begun.excursions, tours_in(begun.excursions[begun.at][6]), end, said)


def attacked_run(web, position, attack, said):
    state, values = position
    steps = []
    for new in said:
        move = attack_move(web, state, values, attack)
        steps.append((move, new))
        if not is_let(web, move, values, new):
            break
        attack = attack_behind(web, state, values, attack, new)
        state, values = web.moves[move][2], new
    return position, tuple(steps)
