"""Attacks: moves picked by what a controller says, that beat every controller."""

from heldalways.court import is_paper, paper_state
from heldalways.excursions import are_items, tours_in
from heldalways.kinds import is_index, is_integer
from heldalways.pumps import Pump, are_alike
from heldalways.steps import end_state, is_script


class Heavy:
    """Items, and the number of one that asks for more than the values give."""

    def __init__(self, excursions, at):
        self.excursions = excursions
        self.at = at


class Surge:
    """Items, a nest of them with one label at both ends, and how often its pump is put into one of it."""

    def __init__(self, excursions, nest, place, rounds):
        self.excursions = excursions
        self.nest = nest
        self.place = place
        self.rounds = rounds


class March:
    """A script that leads to a ring or a pump."""

    def __init__(self, script, paper):
        self.script = script
        self.paper = paper


def is_too_heavy(item, weight, state, values):
    """Whether an item lies at a state and a weight is above the difference of its ends there."""
    numbers = (0, *values)
    return item[0] == state and weight > numbers[item[2]] - numbers[item[1]]


def is_heavy(web, state, values, value):
    if not are_items(web, value.excursions) or not is_index(value.at, len(value.excursions)):
        return False
    item = value.excursions[value.at]
    return is_too_heavy(item, item[4], state, values)


def is_nest(items, value):
    """Whether any value is a nest of at least two items."""
    if not isinstance(value, tuple) or len(value) < 2:
        return False
    if not all([is_index(number, len(items)) for number in value]):
        return False
    return all([inner in tours_in(items[outer][6]) for outer, inner in zip(value, value[1:])])


def surge_weight(surge):
    """The weight of the item for which a surge stands."""
    items = surge.excursions
    gain = items[surge.nest[0]][4] - items[surge.nest[-1]][4]
    return items[surge.nest[surge.place]][4] + (surge.rounds - 1) * gain


def is_surge(web, state, values, value):
    if not are_items(web, value.excursions) or not is_nest(value.excursions, value.nest):
        return False
    if not are_alike(value.excursions, value.nest[0], value.nest[-1]):
        return False
    if not is_index(value.place, len(value.nest) - 1) or not is_integer(value.rounds) or value.rounds < 1:
        return False
    return is_too_heavy(value.excursions[value.nest[value.place]], surge_weight(value), state, values)


def is_march(web, state, value):
    if not is_script(web, state, value.script) or not is_paper(web, value.paper):
        return False
    if isinstance(value.paper, Pump) or value.paper.move is None:
        return end_state(web, state, value.script) == paper_state(web, value.paper)
    return value.script != () and value.script[-1] == value.paper.move


def is_attack(web, state, values, value):
    if isinstance(value, Heavy):
        return is_heavy(web, state, values, value)
    if isinstance(value, Surge):
        return is_surge(web, state, values, value)
    return isinstance(value, March) and is_march(web, state, value)


def surge_depth(surge):
    """The depth of the item for which a surge stands, if that were written out."""
    items = surge.excursions
    if surge.rounds == 1:
        return items[surge.nest[surge.place]][3]
    # Nothing beside the nest is as deep as what is put in at its end, so each more round adds just its length.
    return items[surge.nest[0]][3] + (surge.rounds - 1) * (len(surge.nest) - 1) - surge.place


def most_moves(attack):
    if isinstance(attack, Heavy):
        return attack.excursions[attack.at][3]
    if isinstance(attack, Surge):
        return surge_depth(attack)
    if isinstance(attack.paper, Pump):
        return None
    depths = [attack.paper.excursions[number][3] for number in tours_in(attack.paper.steps)]
    return len(attack.script) + max([0, *depths])
