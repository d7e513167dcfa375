"""Rings and pumps: what no controller can keep for ever."""

from heldalways.excursions import are_items, is_ring, tours_in
from heldalways.kinds import is_index
from heldalways.tourpapers import few_items


class Ring:
    """Items, and steps of a ring at a state, perhaps of a move that ends there, too."""

    def __init__(self, excursions, state, move, begin, steps):
        self.excursions = excursions
        self.state = state
        self.move = move
        self.begin = begin
        self.steps = steps


class Pump:
    """Items, and two of them with one label, the lighter one nested in the heavier one."""

    def __init__(self, excursions, outer, inner):
        self.excursions = excursions
        self.outer = outer
        self.inner = inner


def numbers_above(items, outer, inner):
    """The numbers, up to that of an outer item, of an inner one and of those in which it is nested."""
    found = {inner: True}
    for at in range(inner + 1, outer + 1):
        if any([number in found for number in tours_in(items[at][6])]):
            found[at] = True
    return found


def is_nested(items, outer, inner):
    return inner < outer and outer in numbers_above(items, outer, inner)


def nest_of(items, at):
    nest = [at]
    while items[nest[-1]][3] > 1:
        depth = items[nest[-1]][3] - 1
        deepest = [number for number in tours_in(items[nest[-1]][6]) if items[number][3] == depth]
        nest.append(deepest[0])
    return tuple(nest)


def are_alike(items, outer, inner):
    """Whether two items have the same label, the first one the greater weight."""
    return items[outer][:3] == items[inner][:3] and items[outer][4] > items[inner][4]


def is_pump(web, value):
    if not isinstance(value, Pump) or not are_items(web, value.excursions):
        return False
    many = len(value.excursions)
    if not is_index(value.outer, many) or not is_index(value.inner, many):
        return False
    alike = are_alike(value.excursions, value.outer, value.inner)
    return alike and is_nested(value.excursions, value.outer, value.inner)


def is_ring_paper(web, value):
    if not isinstance(value, Ring) or not are_items(web, value.excursions):
        return False
    return is_ring(web, value.excursions, value.state, value.move, value.begin, value.steps)


def pump_gain(pump):
    return pump.excursions[pump.outer][4] - pump.excursions[pump.inner][4]


def few_pump(items, outer, inner):
    """The pump of two items, with only the items that it needs."""
    few, numbers = few_items(items, (outer, inner))
    return Pump(few, numbers[0], numbers[1])


def places_by_label(items):
    """For each label the numbers of its items."""
    places = {}
    for at, item in enumerate(items):
        places.setdefault(item[:3], []).append(at)
    return places


def nested_marks(items, used, bits):
    """For each item an integer whose bits tell of which labels some are nested in it."""
    marks = []
    for numbers in used:
        mark = 0
        for number in numbers:
            mark = mark | marks[number] | bits[items[number][:3]]
        marks.append(mark)
    return marks


def lightest_nested(items, used, numbers, above):
    """For each item with some of these numbers nested in it the lightest of these; `above` are such items."""
    wanted = {number: True for number in numbers}
    nested = {}
    for at in above:
        found = [number for number in used[at] if number in wanted]
        found.extend([nested[number] for number in used[at] if number in nested])
        nested[at] = min([(items[number][4], number) for number in found])[1]
    return nested


def pump_in(items):
    used = [tours_in(item[6]) for item in items]
    places = places_by_label(items)
    bits = {label: 1 << at for at, label in enumerate(places)}
    marks = nested_marks(items, used, bits)
    for label in places:
        numbers = places[label]
        above = [at for at in range(numbers[0], numbers[-1] + 1) if marks[at] & bits[label]]
        nested = lightest_nested(items, used, numbers, above)
        for outer in numbers:
            if outer in nested and are_alike(items, outer, nested[outer]):
                return few_pump(items, outer, nested[outer])
    return None
