"""Pumps repeated, and items made no deeper than there are labels."""

from heldalways.errors import InvalidNumber
from heldalways.excursions import tours_in
from heldalways.kinds import is_within
from heldalways.pumps import Ring, few_pump, numbers_above, pump_gain
from heldalways.tourpapers import few_items, few_steps, renumbered

MOST_TIMES = 1000


def nest_between(items, outer, inner):
    """A nest from one item to another one that is nested in it."""
    above = numbers_above(items, outer, inner)
    nest = [outer]
    while nest[-1] != inner:
        nest.append([number for number in tours_in(items[nest[-1]][6]) if number in above][0])
    return nest


def made_of(items, item, steps, gain):
    """An item with other steps, by which it weighs so much more."""
    state, one, other, _, weight, move, _ = item
    depth = 1 + max([0, *[items[number][3] for number in tours_in(steps)]])
    return (state, one, other, depth, weight + gain, move, steps)


def with_tour(items, at, old, new):
    """An item that uses another one where it first uses an old one of the same label."""
    steps = items[at][6]
    place = steps.index(("tour", old))
    replaced = (*steps[:place], ("tour", new), *steps[place + 1:])
    return made_of(items, items[at], replaced, items[new][4] - items[old][4])


def pumped(pump, times):
    if not is_within(times, 0, MOST_TIMES):
        raise InvalidNumber("times")
    if times == 0:
        return few_items(pump.excursions, (pump.inner,))[0]
    few, (outer, inner) = few_items(pump.excursions, (pump.outer, pump.inner))
    found = list(few)
    nest = nest_between(few, outer, inner)
    pairs = list(zip(nest, nest[1:]))
    for _ in range(times - 1):
        for at, old in reversed(pairs):
            # What was made last stands where the old one stood.
            found.append(with_tour(found, at, old, len(found) - 1))
    return tuple(found)


def rounds_above(pump, difference):
    weight = pump.excursions[pump.inner][4]
    return 0 if weight > difference else (difference - weight) // pump_gain(pump) + 1


class Levels:
    """Items of which none has one of its own label nested in it.

    `marks` has for each item an integer whose bits tell of which labels some
    are nested in it, `bits` the bit of each label, `places` for each item
    looked at the number of the one that stands for it, no lighter than it.
    """

    def __init__(self):
        self.made = []
        self.marks = []
        self.bits = {}
        self.places = []


def nested_alike(levels, numbers, bit):
    """The number of an item with the label of a bit among some items or nested in one of them, or None."""
    while True:
        inside = None
        for number in numbers:
            if levels.bits[levels.made[number][:3]] == bit:
                return number
            if levels.marks[number] & bit:
                inside = number
        if inside is None:
            return None
        numbers = tours_in(levels.made[inside][6])


def standing_for(levels, items, item):
    """An item made of those that stand for the ones of which the item is made."""
    steps = renumbered(item[6], levels.places)
    gains = [levels.made[levels.places[number]][4] - items[number][4] for number in tours_in(item[6])]
    return made_of(levels.made, item, steps, sum(gains))


def add_item(levels, item):
    """Adds an item, and tells its number."""
    mark = 0
    for number in tours_in(item[6]):
        mark = mark | levels.marks[number] | levels.bits[levels.made[number][:3]]
    levels.made.append(item)
    levels.marks.append(mark)
    return len(levels.made) - 1


def level_all(items):
    """The levels of items, and a pump or None; with a pump not all items have been looked at."""
    levels = Levels()
    for item in items:
        label = item[:3]
        if label not in levels.bits:
            levels.bits[label] = 1 << len(levels.bits)
        made = standing_for(levels, items, item)
        inner = nested_alike(levels, tours_in(made[6]), levels.bits[label])
        if inner is None:
            levels.places.append(add_item(levels, made))
        elif levels.made[inner][4] < made[4]:
            return levels, few_pump(levels.made, add_item(levels, made), inner)
        else:
            levels.places.append(inner)
    return levels, None


def levelled(items):
    levels, pump = level_all(items)
    if pump is not None:
        return pump
    return few_items(levels.made, (levels.places[-1],))[0]


def levelled_ring(ring):
    levels, pump = level_all(ring.excursions)
    if pump is not None:
        return pump
    few, steps = few_steps(levels.made, renumbered(ring.steps, levels.places))
    return Ring(few, ring.state, ring.move, ring.begin, steps)
