"""What right attacks use: moves and rules."""

from heldalways.attacks import Heavy, March, Surge
from heldalways.excursions import tours_in
from heldalways.pumps import Pump, Ring
from heldalways.tourpapers import needed_items


def rules_in(move, steps):
    """The rules of a move that steps name, as pairs."""
    return [(move, number) for word, number in steps if word == "rule"]


def used_items(attack):
    """The items that an attack uses."""
    if isinstance(attack, Heavy):
        items, numbers = attack.excursions, [attack.at]
    elif isinstance(attack, Surge):
        items, numbers = attack.excursions, [attack.nest[0]]
    elif isinstance(attack.paper, Pump):
        items, numbers = attack.paper.excursions, [attack.paper.outer]
    else:
        items, numbers = attack.paper.excursions, tours_in(attack.paper.steps)
    return [items[number] for number in needed_items(items, numbers)]


def used_moves(attack):
    moves = [item[5] for item in used_items(attack)]
    if isinstance(attack, March):
        moves.extend(attack.script)
    return tuple(sorted(set(moves)))


def used_rules(attack):
    rules = []
    for item in used_items(attack):
        rules.extend(rules_in(item[5], item[6]))
    if isinstance(attack, March) and isinstance(attack.paper, Ring):
        rules.extend(rules_in(attack.paper.move, attack.paper.steps))
    return tuple(sorted(set(rules)))
