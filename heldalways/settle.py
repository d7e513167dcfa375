"""When looking deeper changes nothing any more, and what shows that this never comes."""

from heldalways.pumps import Ring, few_pump, nest_of
from heldalways.tourpapers import climb, every_state, first_ring
from heldalways.tours import first_layer, move_frames, tour_rows


def depth_bound(web):
    return depth_bound_of(web, every_state(web))


def depth_bound_of(web, states):
    return len(states) * (len(web.quantities) + 1) ** 2


def layers_of(web, states):
    """The layers of a lot of states, with all that are reached from them, until they tell enough.

    Until one is as the one before, or has a state without rows, or some
    excursion is deeper than there are labels. Other states keep first rows.
    """
    frames = move_frames(web)
    found = [first_layer(web)]
    while len(found) <= depth_bound_of(web, states) + 1:
        before = found[-1]
        layer = tuple([tour_rows(web, frames, before, state) if state in states else rows
                       for state, rows in enumerate(before)])
        found.append(layer)
        if layer == before or None in layer:
            break
    return found


def is_settled(found):
    return found[-1] == found[-2]


def paper_of(web, states, found):
    """Some right ring or pump at a state of some that do not settle."""
    deepest = len(found) - 1
    for state in states:
        if found[-1][state] is None:
            ring = first_ring(web, state, deepest)
            return Ring(*ring)
    return pump_within(web, states, deepest)


def pump_within(web, states, deepest):
    """The pump in some item that is deeper than there are labels."""
    items, levels, _ = climb(web, deepest, states)
    deep = [number for number in list(levels[-1].values()) if items[number][3] == deepest]
    inner_ones = {}
    for number in reversed(nest_of(items, deep[0])):
        label = items[number][:3]
        if label in inner_ones:
            # It came later than the inner one, so it was heavier than all less deep ones.
            return few_pump(items, number, inner_ones[label])
        inner_ones[label] = number
    return None


def final_of(web, states):
    """The last layer of a lot of states with all that are reached from them, or some right ring or pump."""
    found = layers_of(web, states)
    return found[-1] if is_settled(found) else paper_of(web, states, found)


def settled_depth(web):
    found = layers_of(web, every_state(web))
    return len(found) - 2 if is_settled(found) else None


def final_rows(web):
    return final_of(web, every_state(web))


def enough_moves(web, state):
    found = layers_of(web, every_state(web))
    if not is_settled(found):
        return None
    return [layer[state] for layer in found].index(found[-1][state])
