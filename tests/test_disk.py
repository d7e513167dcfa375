import unittest

from heldalways import disk
from heldalways.disk import Disk
from heldalways.errors import Refused
from odd import ODD, STRANGE, told


class Point73(unittest.TestCase):
    def test_wrong_cells(self):
        wrong = [(), (256,), (-1,), (0, 256, 0), [0, 0], (0,) * 20001, (True,), (0.0,), ("a",), (None,), "ab"]
        for value in wrong + STRANGE + [None, 0, 1, ((0,),), *[(0, other, 0) for other in STRANGE]]:
            with self.assertRaises(Refused, msg=told(value)) as caught:
                Disk(value)
            self.assertEqual(caught.exception.word, "cells")
        for value in ODD:
            if isinstance(value, tuple) and value not in ((0,), (0, 0), (1, 2, 3)):
                with self.assertRaises(Refused):
                    Disk(value)

    def test_sizes(self):
        self.assertEqual(Disk((255,)).look(0), 255)
        self.assertEqual(Disk(cells=(0,) * 20000).look(19999), 0)

    def test_puts(self):
        cells = (1, 2, 3)
        found = Disk(cells)
        self.assertEqual(found.events(), ())
        self.assertEqual([found.look(at) for at in range(3)], [1, 2, 3])
        self.assertIsNone(found.put(1, 255))
        self.assertEqual([found.look(at) for at in range(3)], [1, 255, 3])
        self.assertIsNone(found.flush())
        found.put(at=1, octet=0)
        found.put(2, 3)
        self.assertEqual([found.look(at) for at in range(3)], [1, 0, 3])
        self.assertEqual(found.events(), ((1, 255), None, (1, 0), (2, 3)))
        self.assertEqual(found.cells, (1, 2, 3))

    def test_events_do_not_change(self):
        found = Disk((0,))
        before = found.events()
        found.flush()
        self.assertEqual((before, found.events()), ((), (None,)))

    def test_pending_places(self):
        self.assertEqual(disk.pending_places(()), ())
        self.assertEqual(disk.pending_places((None,)), ())
        self.assertEqual(disk.pending_places(((5, 1), (2, 7), (5, 3))), (2, 5))
        self.assertEqual(disk.pending_places(((5, 1), None, (2, 7), (2, 7))), (2,))
        self.assertEqual(disk.pending_places(((5, 1), (2, 7), None)), ())
        self.assertEqual(disk.pending_places(((9, 1), None, None, (1, 0), (0, 0))), (0, 1))

    def test_cut_cells(self):
        cells = (10, 11, 12, 13)
        events = ((0, 1), (3, 2), None, (3, 4), (1, 5), (3, 6))
        self.assertEqual(disk.cut_cells(cells, (), ()), cells)
        self.assertEqual(disk.cut_cells(cells, events[:3], ()), (1, 11, 12, 2))
        self.assertEqual(disk.cut_cells(cells, events, (77, 88)), (1, 77, 12, 88))
        self.assertEqual(disk.cut_cells(cells, events[:2], (0, 255)), (0, 11, 12, 255))
        self.assertEqual(disk.cut_cells(cells, (*events, None), ()), (1, 5, 12, 6))
        self.assertEqual(cells, (10, 11, 12, 13))


if __name__ == "__main__":
    unittest.main()
