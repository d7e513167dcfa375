"""Webs, random ones too, and trials with whole values, for the tests."""

from itertools import product

from heldalways.tours import move_arcs
from heldalways.webs import Web

NAMES = ("a", "b", "c", "d", "e", "f")
STATES = ("p", "q", "r", "s", "t", "u", "v", "w")


def random_rule(random, many, low, high, kinds=("rise", "fall", "now")):
    return (random.choice(kinds), random.randint(0, many), random.randint(0, many), random.randint(low, high))


def random_web(random, many, states, moves, rules, low, high):
    """A web with so many quantities, states, moves, and up to so many rules each."""
    told = []
    for _ in range(moves):
        row = tuple([random_rule(random, many, low, high) for _ in range(random.randint(0, rules))])
        told.append((random.choice("xyz"), random.randrange(states), random.randrange(states), row))
    return Web(NAMES[:many], STATES[:states], tuple(told))


def great_web(random, low, high, ends=None):
    """A web as great as webs may be."""
    moves = []
    for at in range(40):
        rules = tuple([random_rule(random, 6, low, high) for _ in range(30)])
        moves.append(("m", at % 8, random.randrange(8) if ends is None else ends, rules))
    return Web(NAMES, STATES, tuple(moves))


def drifting_web():
    """A great web whose layers change for ever: each move raises all that has a bound."""
    rules = [("rise", at, at, 1) for at in range(1, 7)] + [("now", at, 0, -10 ** 6) for at in range(1, 7)]
    rules += [("fall", at, at % 6 + 1, -999990 + at) for at in range(1, 7)]
    rules += [("now", at, (at + by) % 6 + 1, -900000 + at * by) for at in range(1, 7) for by in (1, 2)]
    return Web(NAMES, STATES, tuple([("m", at % 8, (3 * at + 1) % 8, tuple(rules)) for at in range(40)]))


def random_items(random, web, wanted):
    """Right items, each made of earlier ones drawn at random, perhaps fewer than wanted."""
    arcs = [move_arcs(web, move) for move in range(len(web.moves))]
    items = []
    for _ in range(20 * wanted):
        move = random.randrange(len(web.moves))
        _, start, end, _ = web.moves[move]
        _, one, _, at, weight, step = random.choice([arc for arc in arcs[move] if arc[0] == "old"])
        steps, depth = [step], 1
        for _ in range(random.randrange(4)):
            inner = [(arc[3], arc[4], arc[5], 0) for arc in arcs[move] if arc[0] == arc[2] == "new" and arc[1] == at]
            inner += [(item[2], item[4], ("tour", number), item[3]) for number, item in enumerate(items)
                      if item[0] == end and item[1] == at] * 2
            if inner:
                at, more, step, deep = random.choice(inner)
                weight, depth = weight + more, max(depth, deep + 1)
                steps.append(step)
        back = [arc for arc in arcs[move] if arc[2] == "old" and arc[1] == at]
        if back:
            last = random.choice(back)
            items.append((start, one, last[3], depth, weight + last[4], move, (*steps, last[5])))
        if len(items) == wanted:
            break
    return tuple(items)


def keeps(rules, old, new):
    """Whether old and new values keep rules, by the words of point 2."""
    for kind, i, j, weight in rules:
        old_i, new_i, new_j = ((0,) + old)[i], ((0,) + new)[i], ((0,) + new)[j]
        if kind == "rise" and not new_j - old_i >= weight:
            return False
        if kind == "fall" and not old_i - new_j >= weight:
            return False
        if kind == "now" and not new_j - new_i >= weight:
            return False
    return True


def reach(web, most):
    """The reach of point 17."""
    m, free, tied = len(web.quantities), 1, 1
    for _ in range(most):
        free, tied = 2 + (m - 1) * free, 1 + tied + (m - 1) * free
    return (tied - 1) * max([0] + [rule[3] for move in web.moves for rule in move[3]])


def window(web, values, most):
    far = reach(web, most)
    return range(min((0,) + values) - far, max((0,) + values) + far + 1)


def held_by_trial(web, state, values, most, kept=None):
    """Whether values are held for so many moves, found by trying whole values."""
    kept = {} if kept is None else kept
    key = (state, values, most)
    if key not in kept:
        kept[key] = most == 0 or all(
            [any(held_by_trial(web, move[2], new, most - 1, kept)
                 for new in product(window(web, values, most), repeat=len(values))
                 if keeps(move[3], values, new))
             for move in web.moves if move[1] == state])
    return kept[key]
