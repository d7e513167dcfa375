"""Heaviest excursions, tours and rings, written as items."""

from heldalways.bounds import ring_in
from heldalways.errors import Refused
from heldalways.excursions import tours_in
from heldalways.hidden import both_rows
from heldalways.tours import check_most, every_state, joined_rows, move_arcs, move_frames
from heldalways.webs import moves_from, reached


def named_arcs(web, move):
    """For each two points of a move that an arc joins, the step of a heaviest one."""
    weights = {}
    steps = {}
    for side, one, far_side, other, weight, step in move_arcs(web, move):
        ends = (side, one, far_side, other)
        if ends not in weights or weights[ends] < weight:
            weights[ends] = weight
            steps[ends] = step
    return steps


class Arcs:
    """The heaviest arcs of all moves: their weights, and the steps that name them."""

    def __init__(self, web):
        self.web = web
        self.frames = move_frames(web)
        self.named = [named_arcs(web, move) for move in range(len(web.moves))]


class Inside:
    """The walks among the points of a state, by tours told there and by "now" rules.

    `rows` has the weights of single steps, `best` those of walks, None if
    there is a ring. `middles` has for each two points a point on a heaviest
    walk between them, None where this is a single step.
    """

    def __init__(self, told, among):
        self.among = among
        self.rows = both_rows(told, among)
        self.middles = [[None] * len(told) for _ in told]
        self.best = best_walks(self.rows, self.middles)


def best_walks(rows, middles):
    """The greatest weights of walks, whose middles are written down; None if there is a ring."""
    best = [list(row) for row in rows]
    for at, row in enumerate(best):
        if row[at] is not None and row[at] > 0:
            return None
        row[at] = 0
    for middle in range(len(rows)):
        for one, row in enumerate(best):
            if one != middle and row[middle] is not None:
                raise_marked(row, best[middle], row[middle], middles[one], middle)
                if row[one] > 0:
                    return None
    return best


def raise_marked(row, other, weight, marks, middle):
    """Raises the entries of a row to those of another one with a weight added, and marks these."""
    for at, entry in enumerate(other):
        if entry is not None and (row[at] is None or row[at] < entry + weight):
            row[at] = entry + weight
            marks[at] = middle


def points_behind(middles, one, other):
    """The points behind the first one of a heaviest walk between two points."""
    if one == other:
        return []
    middle = middles[one][other]
    if middle is None:
        return [other]
    # Both parts have lesser middles: whoever raises a part later raises the whole, too.
    return points_behind(middles, one, middle) + points_behind(middles, middle, other)


def level_rows(web, items, level, state):
    """The weights of the items of a level at a state."""
    many = len(web.quantities) + 1
    rows = []
    for one in range(many):
        labels = [(state, one, other) for other in range(many)]
        rows.append(tuple([items[level[label]][4] if label in level else None for label in labels]))
    return tuple(rows)


def inside_state(web, items, level, state):
    many = len(web.quantities) + 1
    return Inside(level_rows(web, items, level, state), ((None,) * many,) * many)


def steps_along(inside, names, level, state, points):
    """The steps from each of some points to the next one."""
    steps = []
    for one, other in zip(points, points[1:]):
        # Of a rule and a tour of one weight the rule is less deep.
        if inside.among[one][other] == inside.rows[one][other]:
            steps.append(names[("new", one, "new", other)])
        else:
            steps.append(("tour", level[(state, one, other)]))
    return tuple(steps)


def ring_told(inside, names, level, state):
    """Where a ring inside begins, and its steps."""
    points = ring_in(inside.rows)
    return points[0], steps_along(inside, names, level, state, points)


def ring_ahead(arcs, insides, level, rings, state):
    """A ring at the end of a move from a state, as is_ring takes it, without the items; None without any."""
    for move in moves_from(arcs.web, state):
        end = arcs.web.moves[move][2]
        if end in rings:
            return rings[end]
        if insides[move].best is None:
            return (end, move, *ring_told(insides[move], arcs.named[move], level, end))
    return None


def best_excursions(arcs, insides, state):
    """For each two points the greatest weight of an excursion from a state, and its move."""
    best = {}
    for move in moves_from(arcs.web, state):
        into, _, back = arcs.frames[move]
        rows = joined_rows(joined_rows(into, insides[move].best), back)
        for one, row in enumerate(rows):
            for other, weight in enumerate(row):
                ends = (one, other)
                if weight is not None and (ends not in best or best[ends][0] < weight):
                    best[ends] = (weight, move)
    return best


def turning_points(frame, best, one, other, weight):
    """The first and the last new point of an excursion with a weight."""
    into, _, back = frame
    for first, begun in enumerate(into[one]):
        for last in range(len(back)):
            parts = (begun, best[first][last], back[last][other])
            if None not in parts and sum(parts) == weight:
                return first, last
    return None


def named_item(arcs, inside, items, level, label, weight, move):
    """The item of an excursion with a label and a weight by a move, inside which its walk lies."""
    state, one, other = label
    end = arcs.web.moves[move][2]
    names = arcs.named[move]
    first, last = turning_points(arcs.frames[move], inside.best, one, other, weight)
    points = [first, *points_behind(inside.middles, first, last)]
    between = steps_along(inside, names, level, end, points)
    depth = 1 + max([0, *[items[number][3] for number in tours_in(between)]])
    steps = (names[("old", one, "new", first)], *between, names[("new", last, "old", other)])
    return (state, one, other, depth, weight, move, steps)


def next_level(arcs, items, level, rings, states):
    """The labels of some states in the next level, and the rings at the ends of moves from the other ones.

    Puts new items behind `items`; `rings` has a ring for each broken state.
    """
    web = arcs.web
    told = [level_rows(web, items, level, state) for state in range(len(web.states))]
    behind = {}
    found = {}
    for state in states:
        insides = {move: Inside(told[web.moves[move][2]], arcs.frames[move][1]) for move in moves_from(web, state)}
        ring = ring_ahead(arcs, insides, level, rings, state)
        if ring is not None:
            found[state] = ring
            continue
        best = best_excursions(arcs, insides, state)
        for one, other in best:
            label = (state, one, other)
            weight, move = best[(one, other)]
            if label in level and items[level[label]][4] >= weight:
                behind[label] = level[label]
            else:
                behind[label] = len(items)
                items.append(named_item(arcs, insides[move], items, level, label, weight, move))
    return behind, found


def next_items(web, items, level, broken=()):
    found = list(items)
    rings = {state: () for state in broken}
    behind, _ = next_level(Arcs(web), found, level, rings, every_state(web))
    return tuple(found), behind


def climb(web, most, states):
    """Items, the levels for 0 to `most` moves, and a ring for each state without rows in the last layer.

    For a lot of states with all that are reached from them.
    """
    arcs = Arcs(web)
    items = []
    levels = [{}]
    rings = {}
    while len(levels) <= most:
        whole = [state for state in states if state not in rings]
        level, found = next_level(arcs, items, levels[-1], rings, whole)
        for state in whole:
            inside = inside_state(web, items, level, state)
            if inside.best is None:
                found[state] = (state, None, *ring_told(inside, {}, level, state))
        level = {label: level[label] for label in level if label[0] not in found}
        if level == levels[-1] and found == {}:
            # What one more move does not change stays for ever.
            break
        rings = {**rings, **found}
        levels.append(level)
    last = levels[-1]
    while len(levels) <= most:
        levels.append({label: last[label] for label in last})
    return items, levels, rings


def best_items(web, most):
    check_most(most)
    items, levels, _ = climb(web, most, every_state(web))
    return tuple(items), tuple(levels)


def renumbered(steps, places):
    return tuple([("tour", places[number]) if word == "tour" else (word, number) for word, number in steps])


def needed_items(items, numbers):
    """The numbers of some items and of all that they are made of, ascending."""
    needed = {number: True for number in numbers}
    for at in range(len(items) - 1, -1, -1):
        if at in needed:
            for number in tours_in(items[at][6]):
                needed[number] = True
    return sorted(list(needed))


def few_items(items, numbers):
    places = {number: at for at, number in enumerate(needed_items(items, numbers))}
    few = [(*items[number][:6], renumbered(items[number][6], places)) for number in places]
    return tuple(few), tuple([places[number] for number in numbers])


def few_steps(items, steps):
    """The items that some steps name and all that they are made of, and the steps that name them there."""
    numbers = tours_in(steps)
    few, places = few_items(items, numbers)
    return few, renumbered(steps, dict(zip(numbers, places)))


def heaviest_tour(web, state, one, other, most):
    check_most(most)
    items, levels, rings = climb(web, most, reached(web, state))
    if state in rings:
        raise Refused("ring")
    level = levels[-1]
    inside = inside_state(web, items, level, state)
    if inside.best[one][other] is None:
        return None
    points = [one, *points_behind(inside.middles, one, other)]
    return few_items(items, tours_in(steps_along(inside, {}, level, state, points)))


def first_ring(web, state, most):
    check_most(most)
    items, _, rings = climb(web, most, reached(web, state))
    if state not in rings:
        return None
    place, move, begin, steps = rings[state]
    few, named = few_steps(items, steps)
    return few, place, move, begin, named
