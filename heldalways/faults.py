"""What shows that a table is not right."""

from heldalways.answers import move_rows
from heldalways.bounds import heaviest, heaviest_walk, is_point_ring, is_point_walk, ring_in, walk_weight
from heldalways.kinds import is_index
from heldalways.tables import broken_move


class Fault:
    """A move, and a walk along its points that asks for more than the table tells."""

    def __init__(self, move, walk):
        self.move = move
        self.walk = walk


def is_above(told, one, other, weight):
    """Whether a weight between two points at a move's start is above the entry told."""
    if one >= len(told) or other >= len(told):
        return False
    return told[one][other] is None or told[one][other] < weight


def is_wrong_walk(web, table, move, walk):
    """Whether any value as the walk is one of a right fault with a move between told states."""
    rows = move_rows(web, table, move)
    if not is_point_walk(rows, walk):
        return False
    told = table[web.moves[move][1]]
    return is_point_ring(rows, walk) or is_above(told, walk[0], walk[-1], walk_weight(rows, walk))


def is_fault(web, table, value):
    if not isinstance(value, Fault) or not is_index(value.move, len(web.moves)):
        return False
    _, start, end, _ = web.moves[value.move]
    if table[start] is None:
        return False
    if table[end] is None:
        return isinstance(value.walk, tuple) and len(value.walk) == 0
    return is_wrong_walk(web, table, value.move, value.walk)


def wrong_walk(web, table, move):
    """Some walk that shows what is wrong with a move between told states."""
    rows = move_rows(web, table, move)
    ring = ring_in(rows)
    if ring is not None:
        return ring
    told = table[web.moves[move][1]]
    best = heaviest(rows)
    for one in range(len(told)):
        for other in range(len(told)):
            if best[one][other] is not None and is_above(told, one, other, best[one][other]):
                return heaviest_walk(rows, one, other)
    return None


def fault_of(web, table):
    move = broken_move(web, table)
    if move is None:
        return None
    if table[web.moves[move][2]] is None:
        return Fault(move, ())
    return Fault(move, wrong_walk(web, table, move))
