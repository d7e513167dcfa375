import random
import unittest

from heldalways.disk import Disk, cut_cells, pending_places
from heldalways.errors import Broken, Refused
from heldalways.journal import Journal


def present(disk):
    return tuple([disk.look(at) for at in range(len(disk.cells))])


def called(journal, name, told):
    """The records behind a call on a list of records."""
    getattr(journal, name)(told)
    return journal.records()


def octets_at(cells, events, draw):
    """Some octets for the pending places: old ones, new ones, others, and mixtures."""
    places = pending_places(events)
    old = tuple([cells[at] for at in places])
    # The octets put last, whether they were flushed or not.
    put = dict([event for event in events if event is not None])
    new = tuple([put[at] for at in places])
    yield old
    yield new
    for octet in (0, 1, 2, 77, 128, 255):
        yield (octet,) * len(places)
    for _ in range(4):
        yield tuple([draw.choice((one, other, draw.randrange(256))) for one, other in zip(old, new)])


def room(cells, records):
    """Whether the document promises room for records."""
    return sum([len(record) + 8 for record in records]) <= cells // 2 - 8


class Point74(unittest.TestCase):
    def refused(self, word, call, *told):
        with self.assertRaises(Refused) as caught:
            call(*told)
        self.assertEqual(caught.exception.word, word)

    def test_records(self):
        disk = Disk((0,) * 200)
        journal = Journal(disk)
        self.assertIs(journal.disk, disk)
        self.assertEqual(journal.records(), ())
        self.assertIsNone(journal.write((1, 2, 3)))
        self.assertIsNone(journal.write(record=()))
        journal.write((0, 0, 255))
        self.assertEqual(journal.records(), ((1, 2, 3), (), (0, 0, 255)))
        self.assertIsNone(journal.drop(1))
        self.assertEqual(journal.records(), ((1, 2, 3), ()))
        journal.drop(many=0)
        self.assertEqual(journal.records(), ((1, 2, 3), ()))
        self.assertIsNone(journal.renew(((9,), (8, 8))))
        self.assertEqual(journal.records(), ((9,), (8, 8)))
        journal.renew(records=())
        self.assertEqual(journal.records(), ())
        self.assertEqual(disk.cells, (0,) * 200)

    def test_quiet_calls(self):
        disk = Disk((0,) * 100)
        journal = Journal(disk)
        journal.write((5,))
        events = disk.events()
        journal.records()
        Journal(disk).records()
        self.assertEqual(disk.events(), events)

    def test_refused_calls_change_nothing(self):
        disk = Disk((0,) * 60)
        journal = Journal(disk)
        journal.write((4, 4))
        events = disk.events()
        self.refused("room", journal.write, (1,) * 60)
        self.refused("room", journal.renew, ((1,) * 30, (1,) * 30))
        self.refused("records", journal.drop, 2)
        self.refused("records", journal.drop, 10 ** 20)
        self.assertEqual((disk.events(), journal.records()), (events, ((4, 4),)))
        journal.drop(1)
        self.refused("records", journal.drop, 1)
        journal.drop(0)
        self.assertEqual(journal.records(), ())

    def test_room(self):
        for cells in [*range(1, 80), 201, 202, 1999, 2000]:
            most = cells // 2 - 8
            for each in (0, 1, 5, 40, most - 8):
                records = ((7,) * max(each, 0),) * 300
                kept = [many for many in range(300) if room(cells, records[:many])]
                journal = Journal(Disk((0,) * cells))
                for many in kept:
                    journal.renew(records[:many])
                    self.assertEqual(journal.records(), records[:many])
                    self.assertEqual(Journal(journal.disk).records(), records[:many])
                journal = Journal(Disk((0,) * cells))
                for many in kept[1:]:
                    journal.write(records[0])
                    self.assertEqual(journal.records(), records[:many])
                if kept:
                    journal.drop(kept[-1])
                    for many in kept[1:]:
                        journal.write(records[0])
                    self.assertEqual(Journal(journal.disk).records(), records[:kept[-1]])

    def test_small_disks(self):
        for cells in range(1, 16):
            journal = Journal(Disk((0,) * cells))
            self.assertEqual(journal.records(), ())
            journal.drop(0)
            self.refused("records", journal.drop, 1)
            self.refused("room", journal.write, (1,) * cells)

    def test_long_records(self):
        journal = Journal(Disk((0,) * 20000))
        for many in (254, 255, 256, 257, 511, 512, 4999, 9983):
            journal.renew((tuple([at * at % 256 for at in range(many)]),))
            self.assertEqual(Journal(journal.disk).records(), (tuple([at * at % 256 for at in range(many)]),))
        journal.renew(())
        record = tuple([at % 256 for at in range(9984)])
        self.assertTrue(room(20000, (record,)))
        journal.write(record)
        journal.renew((record,))
        journal.drop(1)
        journal.write(record)
        self.assertEqual(Journal(Disk(present(journal.disk))).records(), (record,))
        self.refused("room", journal.write, record)

    def test_filled_without_a_promise(self):
        # To the last cell, whatever number of renewals came before.
        for cells in range(40, 60):
            for renewals in range(4):
                journal = Journal(Disk((0,) * cells))
                for _ in range(renewals):
                    journal.renew(((9, 9),))
                kept = list(journal.records())
                for at in range(60):
                    record = (at % 250,) * (5 - at // 12)
                    try:
                        journal.write(record)
                        kept.append(record)
                    except Refused as error:
                        self.assertEqual(error.word, "room")
                    self.assertEqual(Journal(Disk(present(journal.disk))).records(), tuple(kept))
                self.filled(journal, tuple(kept))

    def filled(self, journal, records):
        """A full journal is renewed, and cut meanwhile."""
        cells = present(journal.disk)
        for behind in (records, ((7,) * 9,), ()):
            disk = Disk(cells)
            try:
                Journal(disk).renew(behind)
            except Refused as error:
                self.assertEqual((error.word, disk.events()), ("room", ()))
            events = disk.events()
            for many in range(len(events)):
                places = pending_places(events[:many])
                for octet in (0, 1, 200):
                    left = Journal(Disk(cut_cells(cells, events[:many], (octet,) * len(places)))).records()
                    self.assertIn(left, (records, behind))

    def test_other_cells(self):
        draw = random.Random(2)
        for _ in range(300):
            cells = tuple([draw.choice((0, 1, 3, draw.randrange(256))) for _ in range(draw.randrange(1, 60))])
            try:
                Journal(Disk(cells)).records()
            except Broken as error:
                self.assertEqual(error.word, "journal")


class Point74Cuts(unittest.TestCase):
    def cut(self, cells, name, told, before, behind, draw, goes_on):
        """Cuts a call on a disk everywhere, and lets a journal on what is left go on."""
        disk = Disk(cells)
        journal = Journal(disk)
        self.assertEqual(journal.records(), before)
        self.assertEqual(disk.events(), ())
        self.assertEqual(called(journal, name, told), behind)
        events = disk.events()
        self.assertEqual(pending_places(events), ())
        for many in range(len(events) + 1):
            for octets in octets_at(cells, events[:many], draw):
                left = cut_cells(cells, events[:many], octets)
                found = Journal(Disk(left))
                if many == len(events):
                    self.assertEqual(found.records(), behind)
                else:
                    self.assertIn(found.records(), (before, behind))
                if goes_on:
                    self.go_on(left, found.records(), draw)

    def go_on(self, cells, records, draw):
        """Another call on what a cut has left, cut again at some places."""
        name, told, behind = self.some_call(len(cells), records, draw)
        if name is not None:
            disk = Disk(cells)
            self.assertEqual(called(Journal(disk), name, told), behind)
            events = disk.events()
            self.assertEqual(Journal(Disk(present(disk))).records(), behind)
            for many in draw.sample(range(len(events) + 1), min(3, len(events) + 1)):
                for octets in octets_at(cells, events[:many], draw):
                    left = cut_cells(cells, events[:many], octets)
                    self.assertIn(Journal(Disk(left)).records(), (records, behind) if many < len(events) else (behind,))

    def some_call(self, cells, records, draw):
        record = tuple([draw.choice((0, 1, 255, draw.randrange(256))) for _ in range(draw.randrange(6))])
        name = draw.choice(("write", "write", "drop", "renew"))
        if name == "drop":
            many = draw.randrange(len(records) + 1)
            return "drop", many, records[:len(records) - many]
        behind = (*records, record) if name == "write" else tuple(draw.sample(records, len(records) // 2)) + (record,)
        if not room(cells, behind):
            return None, None, None
        return name, record if name == "write" else behind, behind

    def test_every_event(self):
        draw = random.Random(4)
        for cells in (64, 91, 120):
            for first in ((), ((1, 2), (0,)), ((), (), (255, 0, 1))):
                if not room(cells, first):
                    continue
                disk = Disk((0,) * cells)
                journal = Journal(disk)
                for record in first:
                    journal.write(record)
                for _ in range(draw.randrange(3)):
                    journal.renew(first)
                now = present(disk)
                for name, told, behind in (
                        ("write", (6, 0, 7), (*first, (6, 0, 7))), ("write", (), (*first, ())),
                        ("renew", ((3,),), ((3,),)), ("renew", (), ()), ("renew", first, first),
                        ("drop", len(first), ()), ("drop", 0, first), ("drop", len(first) // 2, first[:-(-len(first) // 2)])):
                    if name == "drop" or room(cells, behind):
                        self.cut(now, name, told, first, behind, draw, True)

    def test_many_calls(self):
        draw = random.Random(5)
        for cells in (60, 150):
            now, records = (0,) * cells, ()
            for _ in range(60):
                name, told, behind = self.some_call(cells, records, draw)
                if name is None:
                    name, told, behind = "drop", len(records), ()
                self.cut(now, name, told, records, behind, draw, False)
                disk = Disk(now)
                called(Journal(disk), name, told)
                # Now and then the next call meets what a cut has left.
                events = disk.events()
                many = draw.randrange(len(events) + 1)
                octets = tuple([draw.randrange(256) for _ in pending_places(events[:many])])
                now = cut_cells(now, events[:many], octets)
                records = Journal(Disk(now)).records()


if __name__ == "__main__":
    unittest.main()
