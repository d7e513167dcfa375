"""Journals on disks, which no cut leaves between two of their states.

The first cell tells which half of the others is in force: the first one for 0,
the second one for any other octet. A half is a row of records, each behind a
mark that is not 0, with its length in two octets; a mark 0 ends the row. What
is in force is never put anew, but for one cell behind a flush of its own: the
mark of one record or the first cell. Any octet that a cut leaves there stands
for what was before or for what comes behind.
"""

from heldalways.errors import Broken, Refused


class Journal:
    """The records on a disk."""

    def __init__(self, disk):
        self.disk = disk
        self._size = (len(disk.cells) - 1) // 2
        self._second = disk.look(0) != 0
        self._records = []
        self._marks = []
        self._end = 0
        self._find()

    def records(self):
        return tuple(self._records)

    def write(self, record):
        end = self._end + len(record) + 3
        if end >= self._size:
            raise Refused("room")
        begin = self._begin()
        # The mark stays 0 until the record and the end behind it last.
        self._put_all(begin + self._end + 1, [*length_octets(record), *record, 0])
        self.disk.flush()
        self._put_last(begin + self._end, 1)
        self._marks.append(self._end)
        self._records.append(record)
        self._end = end

    def drop(self, many):
        kept = len(self._records) - many
        if kept < 0:
            raise Refused("records")
        if many == 0:
            return
        self._put_last(self._begin() + self._marks[kept], 0)
        self._end = self._marks[kept]
        self._records = self._records[:kept]
        self._marks = self._marks[:kept]

    def renew(self, records):
        octets = row_octets(records)
        if len(octets) > self._size:
            raise Refused("room")
        self._second = not self._second
        self._put_all(self._begin(), octets)
        self.disk.flush()
        self._put_last(0, 1 if self._second else 0)
        self._find()

    def _begin(self):
        return self._size + 1 if self._second else 1

    def _put_all(self, at, octets):
        for place, octet in enumerate(octets):
            self.disk.put(at + place, octet)

    def _put_last(self, at, octet):
        self.disk.put(at, octet)
        self.disk.flush()

    def _find(self):
        """Reads the records that are in force."""
        begin = self._begin()
        half = [self.disk.look(begin + at) for at in range(self._size)]
        self._records = []
        self._marks = []
        at = 0
        while at < self._size and half[at] != 0:
            record = record_at(half, at)
            self._marks.append(at)
            self._records.append(record)
            at += len(record) + 3
        self._end = at


def length_octets(record):
    return [len(record) // 256, len(record) % 256]


def row_octets(records):
    """The octets of a row of records, with the end mark."""
    octets = []
    for record in records:
        octets.extend([1, *length_octets(record), *record])
    octets.append(0)
    return octets


def record_at(half, at):
    """The record behind the mark at a place, which has a mark behind it."""
    if at + 3 >= len(half):
        raise Broken("journal")
    many = half[at + 1] * 256 + half[at + 2]
    if at + 3 + many >= len(half):
        raise Broken("journal")
    return tuple(half[at + 3:at + 3 + many])
