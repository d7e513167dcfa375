"""The least room that is enough, and papers that show it."""

from heldalways.court import Controller, holds_ever, is_paper_at, verdict_at
from heldalways.errors import Refused
from heldalways.halving import least_from
from heldalways.roompapers import beaten_to
from heldalways.rooms import MOST_ROOM, is_enough, is_room_number, roomed_web, with_room
from heldalways.tables import is_table
from heldalways.webs import check_values


class RoomPaper:
    """A room, a table that tells that it is enough, and a ring or pump that shows that one less is not."""

    def __init__(self, room, table, paper):
        self.room = room
        self.table = table
        self.paper = paper


def web_with_room(web, rooms, place, room):
    return roomed_web(web, with_room(rooms, place, room))


def is_enough_table(web, state, table):
    return is_table(web, table) and table[state] is not None


def is_room_paper(web, rooms, place, state, value):
    widest = web_with_room(web, rooms, place, MOST_ROOM)
    if not isinstance(value, RoomPaper):
        return False
    if value.room is None:
        return value.table is None and is_paper_at(widest, state, value.paper)
    if not is_room_number(value.room):
        return False
    if not is_enough_table(web_with_room(web, rooms, place, value.room), state, value.table):
        return False
    if value.room == 0:
        return value.paper is None
    return is_paper_at(web_with_room(web, rooms, place, value.room - 1), state, value.paper)


def first_unbeaten(web, rooms, place, state, room):
    """A number itself, if it is enough; otherwise the least one that some paper for it does not beat."""
    tried = with_room(rooms, place, room)
    verdict = verdict_at(roomed_web(web, tried), state)
    if isinstance(verdict, Controller):
        return room
    return beaten_to(web, tried, place, verdict) + 1


def least_enough(web, rooms, place, state, most):
    """The least number up to one that is enough, for which that one is."""
    low = 0
    while low < most:
        # A paper often beats all numbers that are too small; if not, halving comes to the end, too.
        room = first_unbeaten(web, rooms, place, state, low)
        if room == low or room == most:
            return room
        low = room
        middle = (low + most) // 2
        room = first_unbeaten(web, rooms, place, state, middle)
        if room == middle:
            most = middle
        else:
            low = room
    return low


def least_room(web, rooms, place, state):
    if not is_enough(web, with_room(rooms, place, MOST_ROOM), state):
        return None
    return least_enough(web, rooms, place, state, MOST_ROOM)


def room_paper(web, rooms, place, state):
    room = least_room(web, rooms, place, state)
    if room is None:
        return RoomPaper(None, None, verdict_at(web_with_room(web, rooms, place, MOST_ROOM), state))
    table = verdict_at(web_with_room(web, rooms, place, room), state).table
    if room == 0:
        return RoomPaper(0, table, None)
    return RoomPaper(room, table, verdict_at(web_with_room(web, rooms, place, room - 1), state))


def least_room_for(web, rooms, place, state, values):
    widest = web_with_room(web, rooms, place, MOST_ROOM)
    check_values(web, values)
    if not holds_ever(widest, state, values):
        return None
    return least_from(
        0, MOST_ROOM, lambda room: holds_ever(web_with_room(web, rooms, place, room), state, values))


def lean_rooms(web, rooms, state):
    if not is_enough(web, rooms, state):
        raise Refused("room")
    # What cannot be less beside wider rooms cannot be less beside narrower ones.
    for place in range(len(rooms)):
        rooms = with_room(rooms, place, least_enough(web, rooms, place, state, rooms[place][2]))
    return rooms
