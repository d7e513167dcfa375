"""Webs without some of their moves or rules, and attacks found there.

Where `striking` stands, a lot is one of rules, as pairs `(move, number)`,
if it is True, otherwise one of moves.
"""

from heldalways.attacks import Heavy, March
from heldalways.kinds import is_index, is_tuple_of
from heldalways.marks import used_moves, used_rules
from heldalways.pumps import Pump, Ring
from heldalways.quick import attack_on
from heldalways.webs import Web


def is_part(web, striking, value):
    """Whether any value is the number of a move, or the pair of a move and the number of a rule of it."""
    if not striking:
        return is_index(value, len(web.moves))
    if not is_tuple_of(value, 2) or not is_index(value[0], len(web.moves)):
        return False
    return is_index(value[1], len(web.moves[value[0]][3]))


def is_lot_of_parts(web, striking, value):
    if not isinstance(value, tuple) or not all([is_part(web, striking, part) for part in value]):
        return False
    return all([one < other for one, other in zip(value, value[1:])])


def used_parts(striking, attack):
    """The lot of moves, or of rules, that a right attack uses."""
    return used_rules(attack) if striking else used_moves(attack)


class Left:
    """What is left of a web, with the numbers that its moves and their rules have in the whole one."""

    def __init__(self, web, moves, rules):
        self.web = web
        self.moves = moves
        self.rules = rules


def left_without(web, striking, lot):
    """What is left without a lot of moves or rules."""
    kept = [at for at in range(len(web.moves)) if striking or at not in lot]
    rules = []
    moves = []
    for at in kept:
        numbers = [number for number in range(len(web.moves[at][3])) if not striking or (at, number) not in lot]
        rules.append(numbers)
        moves.append((*web.moves[at][:3], tuple([web.moves[at][3][number] for number in numbers])))
    return Left(Web(web.quantities, web.states, tuple(moves)), kept, rules)


def placed_steps(left, move, steps):
    """Steps with the numbers that rules have in the whole web."""
    return tuple([(word, left.rules[move][number] if word == "rule" else number) for word, number in steps])


def placed_items(left, items):
    return tuple([(*item[:5], left.moves[item[5]], placed_steps(left, item[5], item[6])) for item in items])


def placed_paper(left, paper):
    items = placed_items(left, paper.excursions)
    if isinstance(paper, Pump):
        return Pump(items, paper.outer, paper.inner)
    move = None if paper.move is None else left.moves[paper.move]
    return Ring(items, paper.state, move, paper.begin, placed_steps(left, paper.move, paper.steps))


def attack_without(web, state, values, striking, lot):
    """Some right attack that uses nothing of a lot, None if the values are held for ever without it."""
    left = left_without(web, striking, lot)
    attack = attack_on(left.web, state, values)
    if attack is None:
        return None
    if isinstance(attack, Heavy):
        return Heavy(placed_items(left, attack.excursions), attack.at)
    return March(tuple([left.moves[move] for move in attack.script]), placed_paper(left, attack.paper))
