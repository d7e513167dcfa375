"""Attacks found: some one, and one that needs as few moves as can be."""

from heldalways.attacks import Heavy, March, is_too_heavy
from heldalways.court import paper_state
from heldalways.judgment import way_between
from heldalways.pumps import Pump, Ring
from heldalways.settle import is_settled, layers_of, paper_of
from heldalways.tourpapers import first_ring, heaviest_tour
from heldalways.tours import check_most, first_layer, keeps_rows, move_frames, next_layer
from heldalways.webs import reached


def march_to(web, state, paper):
    """The attack along a shortest script to the place of a right ring or pump."""
    script = way_between(web, state, paper_state(web, paper))
    if not isinstance(paper, Pump) and paper.move is not None:
        script = (*script, paper.move)
    return March(script, paper)


def heavy_pair(rows, values):
    """Two points whose entry of rows asks for more than values give."""
    numbers = (0, *values)
    for one, row in enumerate(rows):
        for other, entry in enumerate(row):
            if entry is not None and entry > numbers[other] - numbers[one]:
                return one, other
    return None


def heavy_attack(web, state, values, rows, most):
    """The attack by an item, at most so many moves deep, of a tour that asks for more than values give."""
    one, other = heavy_pair(rows, values)
    items, chain = heaviest_tour(web, state, one, other, most)
    heavy = [number for number in chain if is_too_heavy(items[number], items[number][4], state, values)]
    return Heavy(items, heavy[0])


def attack_on(web, state, values):
    near = reached(web, state)
    found = layers_of(web, near)
    if not is_settled(found):
        return march_to(web, state, paper_of(web, near, found))
    rows = found[-1][state]
    if keeps_rows(rows, values):
        return None
    return heavy_attack(web, state, values, rows, len(found) - 2)


def lost_layer(web, state, values, most):
    """The least number of moves, up to so many, for which values are not held, and the state's rows in its layer.

    None if they are held for so many moves.
    """
    near = reached(web, state)
    frames = move_frames(web)
    before = None
    layer = first_layer(web)
    many = 0
    while layer[state] is not None and keeps_rows(layer[state], values):
        if many == most or layer == before:
            return None
        before, layer = layer, next_layer(web, frames, layer, near, before)
        many += 1
    return many, layer[state]


def fewest_moves(web, state, values, most):
    check_most(most)
    lost = lost_layer(web, state, values, most)
    return None if lost is None else lost[0]


def quick_attack(web, state, values, most):
    check_most(most)
    lost = lost_layer(web, state, values, most)
    if lost is None:
        return None
    many, rows = lost
    if rows is None:
        ring = first_ring(web, state, many)
        return march_to(web, state, Ring(*ring))
    return heavy_attack(web, state, values, rows, many)
