"""What a ring or a pump for some rooms shows for other ones."""

from heldalways.errors import Refused
from heldalways.excursions import tours_in, walk_told
from heldalways.pumps import Pump, Ring, pump_gain
from heldalways.rooms import MOST_ROOM, roomed_web


def paper_gain(web, rooms, paper):
    if isinstance(paper, Pump):
        return pump_gain(paper)
    roomed = roomed_web(web, rooms)
    return walk_told(roomed, paper.excursions, paper.state, paper.move, paper.begin, paper.steps)[1]


def rule_of_room(web, move, place):
    """The step that names the rule of a room, of a move or None."""
    return None if move is None else ("rule", len(web.moves[move][3]) + place)


def count_in(counts, step, steps):
    """How often steps have the rule of a step, by the counts of items."""
    return steps.count(step) + sum([counts[number] for number in tours_in(steps)])


def item_counts(web, place, items):
    """For each item how often it has the rule of a room."""
    counts = []
    for item in items:
        counts.append(count_in(counts, rule_of_room(web, item[5], place), item[6]))
    return counts


def room_count(web, place, paper):
    counts = item_counts(web, place, paper.excursions)
    if isinstance(paper, Pump):
        return counts[paper.outer] - counts[paper.inner]
    return count_in(counts, rule_of_room(web, paper.move, place), paper.steps)


def beaten_to(web, rooms, place, paper):
    count = room_count(web, place, paper)
    if count == 0:
        return MOST_ROOM
    # Each number more takes the count away from the gain, which stays above 0.
    return min(MOST_ROOM, rooms[place][2] + (paper_gain(web, rooms, paper) - 1) // count)


def paper_at(web, rooms, place, paper, room):
    if room > beaten_to(web, rooms, place, paper):
        raise Refused("room")
    wider = room - rooms[place][2]
    counts = item_counts(web, place, paper.excursions)
    items = tuple([
        (*item[:4], item[4] - wider * count, *item[5:]) for item, count in zip(paper.excursions, counts)])
    if isinstance(paper, Pump):
        return Pump(items, paper.outer, paper.inner)
    return Ring(items, paper.state, paper.move, paper.begin, paper.steps)
