"""Rooms: how far a value may be above another one behind each move."""

from heldalways.kinds import is_index, is_tuple_of, is_within
from heldalways.settle import is_settled, layers_of
from heldalways.webs import reached, with_rules_behind

MOST_ROOM = 1000000


def is_room_number(value):
    return is_within(value, 0, MOST_ROOM)


def is_room(web, value):
    """Whether any value is one of the triples of rooms."""
    if not is_tuple_of(value, 3):
        return False
    one, other, room = value
    many = len(web.quantities) + 1
    return is_index(one, many) and is_index(other, many) and one != other and is_room_number(room)


def are_rooms(web, value):
    return isinstance(value, tuple) and all([is_room(web, room) for room in value])


def roomed_web(web, rooms):
    return with_rules_behind(web, [("now", one, other, -room) for one, other, room in rooms])


def with_room(rooms, place, room):
    one, other, _ = rooms[place]
    return (*rooms[:place], (one, other, room), *rooms[place + 1:])


def is_enough(web, rooms, state):
    return is_settled(layers_of(roomed_web(web, rooms), reached(web, state)))
