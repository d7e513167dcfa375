"""Disks that may be cut at any moment."""

from heldalways.errors import Refused
from heldalways.kinds import is_within

MOST_CELLS = 20000


def is_octet(value):
    return is_within(value, 0, 255)


def are_cells(value):
    if not isinstance(value, tuple) or not 1 <= len(value) <= MOST_CELLS:
        return False
    return all([is_octet(octet) for octet in value])


class Disk:
    """Octets that are put and, by a flush, made last; its attribute stays as given."""

    def __init__(self, cells):
        if not are_cells(cells):
            raise Refused("cells")
        self.cells = cells
        self._present = list(cells)
        self._events = []

    def look(self, at):
        return self._present[at]

    def put(self, at, octet):
        self._present[at] = octet
        self._events.append((at, octet))

    def flush(self):
        self._events.append(None)

    def events(self):
        return tuple(self._events)


def pending_places(events):
    found = {}
    for event in events:
        if event is None:
            found = {}
        else:
            found[event[0]] = True
    return tuple(sorted(found))


def cut_cells(cells, events, octets):
    left = list(cells)
    for event in events:
        if event is not None:
            left[event[0]] = event[1]
    for at, octet in zip(pending_places(events), octets):
        left[at] = octet
    return tuple(left)
