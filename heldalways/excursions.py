"""Items that name excursions, and the tours and rings that are made of them."""

from heldalways.kinds import is_index, is_integer, is_tuple_of
from heldalways.steps import starts_at


def step_number(value, word, many):
    """The number in a step with a word, None for any other value and for one not below many."""
    if not is_tuple_of(value, 2) or not isinstance(value[0], str) or value[0] != word:
        return None
    return value[1] if is_index(value[1], many) else None


def rule_named(web, move, step):
    """The rule of a move that any value as a step names, None if it names none."""
    rules = web.moves[move][3]
    number = step_number(step, "rule", len(rules))
    return None if number is None else rules[number]


def outer_arc(web, move, kind, point, step):
    """Where an arc leads from a point, "rise" into the new ones or "fall" back, and its weight.

    None for any other value as the step.
    """
    if point == 0 and step_number(step, "ground", 1) == 0:
        return 0, 0
    rule = rule_named(web, move, step)
    if rule is None or rule[0] != kind:
        return None
    begin, end = (rule[1], rule[2]) if kind == "rise" else (rule[2], rule[1])
    return (end, rule[3]) if begin == point else None


def arc_between(web, items, state, move, point, step):
    """Where a step between leads, its weight and its depth; None for any other value.

    The depth is 0 for a rule of the move, if there is a move.
    """
    number = step_number(step, "tour", len(items))
    if number is not None:
        place, one, other, depth, weight = items[number][:5]
        return (other, weight, depth) if place == state and one == point else None
    rule = None if move is None else rule_named(web, move, step)
    if rule is None or rule[0] != "now" or rule[1] != point:
        return None
    return rule[2], rule[3], 0


def walk_along(web, items, state, move, begin, steps):
    """What walk_told returns, for a state, a move or None, a point, and any values as steps."""
    point = begin
    weight = 0
    depth = 0
    for step in steps:
        found = arc_between(web, items, state, move, point, step)
        if found is None:
            return None
        point = found[0]
        weight += found[1]
        depth = max(depth, found[2])
    return point, weight, depth


def excursion_told(web, items, one, move, steps):
    """Where an excursion by a move from a point leads, its weight and depth; None for wrong steps."""
    first = outer_arc(web, move, "rise", one, steps[0])
    if first is None:
        return None
    walk = walk_along(web, items, web.moves[move][2], move, first[0], steps[1:-1])
    if walk is None:
        return None
    last = outer_arc(web, move, "fall", walk[0], steps[-1])
    if last is None:
        return None
    return last[0], first[1] + walk[1] + last[1], walk[2] + 1


def tours_in(steps):
    """The numbers of the items that right steps name."""
    return [number for word, number in steps if word == "tour"]


def is_item(web, items, value):
    """Whether any value is an item made of items."""
    if not is_tuple_of(value, 7):
        return False
    state, one, other, depth, weight, move, steps = value
    if not is_index(state, len(web.states)) or not starts_at(web, state, move):
        return False
    many = len(web.quantities) + 1
    if not is_index(one, many) or not is_index(other, many):
        return False
    if not is_integer(depth) or not is_integer(weight) or not isinstance(steps, tuple) or len(steps) < 2:
        return False
    return excursion_told(web, items, one, move, steps) == (other, weight, depth)


def are_items(web, value):
    if not isinstance(value, tuple):
        return False
    earlier = []
    for item in value:
        if not is_item(web, earlier, item):
            return False
        earlier.append(item)
    return True


def walk_told(web, items, state, move, begin, steps):
    if not is_index(state, len(web.states)) or not is_index(begin, len(web.quantities) + 1):
        return None
    if move is not None and (not is_index(move, len(web.moves)) or web.moves[move][2] != state):
        return None
    if not isinstance(steps, tuple):
        return None
    return walk_along(web, items, state, move, begin, steps)


def is_chain(web, items, state, one, other, chain):
    if not isinstance(chain, tuple):
        return False
    found = walk_along(web, items, state, None, one, [("tour", number) for number in chain])
    return found is not None and found[0] == other


def chain_weight(items, chain):
    return sum([items[number][4] for number in chain])


def chain_depth(items, chain):
    return max([0, *[items[number][3] for number in chain]])


def is_ring(web, items, state, move, begin, steps):
    found = walk_told(web, items, state, move, begin, steps)
    return found is not None and found[0] == begin and found[1] > 0
