"""When looking deeper changes nothing any more, and what shows that this never comes."""

from heldalways.excursions import tours_in
from heldalways.pumps import Ring, few_pump
from heldalways.tourpapers import Arcs, first_ring, next_level
from heldalways.tours import every_state, first_layer, move_frames, next_layer

SOON = 12


def depth_bound(web):
    return len(web.states) * (len(web.quantities) + 1) ** 2


class Nested:
    """Items that may be put into one another: which labels come within each of them.

    `inside` has for each item a dict from the labels nested in it to the
    number of an item that has the label there.
    """

    def __init__(self):
        self.made = []
        self.inside = []


def pump_made(nested):
    """The numbers of the first item that has its own label nested in it, and of the one in it; None without any.

    Looks at the items that have come since it was last asked.
    """
    items = nested.made
    for at in range(len(nested.inside), len(items)):
        labels = {}
        for number in tours_in(items[at][6]):
            for label in nested.inside[number]:
                labels[label] = nested.inside[number][label]
            labels[items[number][:3]] = number
        nested.inside.append(labels)
        if items[at][:3] in labels:
            return at, labels[items[at][:3]]
    return None


def leads_to(web, state, ends):
    """Whether a move leads from a state to some others."""
    return any([start == state and end in ends for _, start, end, _ in web.moves])


def first_pump(web, states):
    """Some right pump at a lot of states with all that are reached from them; None if there is none.

    Also None if a ring comes before any pump does.
    """
    arcs = Arcs(web)
    nested = Nested()
    level = {}
    moved = states
    while moved:
        behind, rings = next_level(arcs, nested.made, level, {}, moved)
        if rings != {}:
            return None
        # An item that comes later is heavier than all of its label that came before.
        found = pump_made(nested)
        if found is not None:
            return few_pump(nested.made, found[0], found[1])
        changed = [label[0] for label in behind if level.get(label) != behind[label]]
        moved = [state for state in states if leads_to(web, state, changed)]
        for label in behind:
            level[label] = behind[label]
    return None


def layers_of(web, states):
    """The layers of a lot of states, with all that are reached from them, until they tell enough.

    Until one is as the one before, or has a state without rows, or there is
    a pump and they have not settled soon. Other states keep first rows.
    """
    frames = move_frames(web)
    found = [first_layer(web)]
    while True:
        before = found[-2] if len(found) > 1 else None
        layer = next_layer(web, frames, found[-1], states, before)
        found.append(layer)
        if layer == found[-2] or None in layer:
            return found
        if len(found) == SOON and first_pump(web, states) is not None:
            return found


def is_settled(found):
    return found[-1] == found[-2]


def paper_of(web, states, found):
    """Some right ring or pump at a state of some that do not settle."""
    for state in states:
        if found[-1][state] is None:
            ring = first_ring(web, state, len(found) - 1)
            return Ring(*ring)
    return first_pump(web, states)


def final_of(web, states):
    """The last layer of a lot of states with all that are reached from them, or some right ring or pump."""
    found = layers_of(web, states)
    return found[-1] if is_settled(found) else paper_of(web, states, found)


def settled_depth(web):
    found = layers_of(web, every_state(web))
    return len(found) - 2 if is_settled(found) else None


def final_rows(web):
    return final_of(web, every_state(web))


def enough_moves(web, state):
    found = layers_of(web, every_state(web))
    if not is_settled(found):
        return None
    return [layer[state] for layer in found].index(found[-1][state])
