"""How much room the differences at a state have, and where what is lost does not come back."""

from heldalways.answers import check_held, new_point
from heldalways.behind import exact_rows, joint_rows
from heldalways.bounds import heaviest
from heldalways.hidden import both_rows
from heldalways.tours import check_most, joined_rows, move_frame
from heldalways.webs import moves_from


def slacks(table, state, values):
    numbers = (0, *values)
    return tuple([
        tuple([None if entry is None else last - first - entry for last, entry in zip(numbers, row)])
        for first, row in zip(numbers, table[state])])


def outer_walks(web, table, move):
    """The greatest weights of walks from old points to new ones, and from new ones to old ones."""
    into, among, back = move_frame(web, move)
    inner = heaviest(both_rows(among, table[web.moves[move][2]]))
    return joined_rows(into, inner), joined_rows(inner, back)


def heirs_of(asked, told, into, back, one, other):
    """The heirs of two points, by the rows at the start and the end of a move and the walks between."""
    found = []
    for a, row in enumerate(told):
        for b, entry in enumerate(row):
            parts = (into[one][a], entry, back[b][other])
            if a != b and None not in parts and sum(parts) == asked[one][other]:
                found.append((a, b))
    return tuple(found)


def heirs(web, table, move, one, other):
    _, start, end, _ = web.moves[move]
    into, back = outer_walks(web, table, move)
    return heirs_of(table[start], table[end], into, back, one, other)


def slack_range(web, table, values, move, one, other):
    check_held(web, table, values, move)
    best = heaviest(joint_rows(web, table, move, exact_rows(values)))
    begin = new_point(len(values), one)
    last = new_point(len(values), other)
    entry = table[web.moves[move][2]][one][other]
    back = best[last][begin]
    return best[begin][last] - entry, None if back is None else -back - entry


def heir_steps(web, table, move):
    """For each two points at the start of a move that have heirs the triples that tell these."""
    _, start, end, _ = web.moves[move]
    into, back = outer_walks(web, table, move)
    points = range(len(web.quantities) + 1)
    found = {}
    for one in points:
        for other in points:
            pairs = heirs_of(table[start], table[end], into, back, one, other)
            if pairs != ():
                found[(one, other)] = [(move, a, b) for a, b in pairs]
    return found


def all_heir_steps(web, table):
    """For each state that is told, and two points there, the triples of all their heirs."""
    found = {}
    for state, rows in enumerate(table):
        if rows is None:
            continue
        for move in moves_from(web, state):
            steps = heir_steps(web, table, move)
            for one, other in steps:
                found.setdefault((state, one, other), []).extend(steps[(one, other)])
    return found


def place_behind(web, step):
    """The state and the points behind a triple of a line."""
    move, one, other = step
    return (web.moves[move][2], one, other)


def heir_line(web, table, state, one, other, most):
    check_most(most)
    steps = all_heir_steps(web, table)
    lasting = [steps]
    place = (state, one, other)
    # Each of these has what leads to places from which a line of so many more triples goes on.
    while len(lasting) < most and place in lasting[-1]:
        longer = {}
        for begin in steps:
            found = [step for step in steps[begin] if place_behind(web, step) in lasting[-1]]
            if found:
                longer[begin] = found
        lasting.append(longer)
        if len(longer) == len(lasting[-2]):
            lasting.extend([longer] * (most - len(lasting)))
    line = []
    for following in reversed(lasting[:most]):
        if place in following:
            line.append(following[place][0])
            place = place_behind(web, line[-1])
    return tuple(line)
