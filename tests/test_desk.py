import random
import unittest

from heldalways import desk, octets
from heldalways.deeds import is_deed, sheet_after, sheet_after_all
from heldalways.desk import Desk, start_desk
from heldalways.disk import Disk, cut_cells
from heldalways.errors import Broken, Refused
from heldalways.journal import Journal
from heldalways.promises import heaviest_rule, move_deed, near_deed
from heldalways.quick import attack_on
from heldalways.sheets import Sheet, is_sheet
from heldalways.webs import Web
from helping import NAMES, STATES
from odd import ODD, told
from test_deeds import FULL, PAIR, POUR, SHEET, all_deeds, open_sheets
from test_journal import octets_at, present


def weight_of(part):
    """What a sheet or a deed weighs, by the words of point 78."""
    if isinstance(part, Sheet):
        web = part.web
        return 32 + 16 * (len(web.quantities) + len(web.states) + len(web.moves)) + 8 * sum([len(move[3]) for move in web.moves])
    told_parts = {"move": lambda: len(part[2]), "rule": lambda: 1, "add": lambda: len(part[1][3]), "quantity": lambda: 1}
    return 32 + 8 * told_parts.get(part[0], lambda: 0)()


def seen(found):
    return found.begun(), found.deeds(), found.sheet


def random_call(draw, found):
    """Some call of a desk that is not refused by what it is told."""
    word = draw.choice(("do", "do", "do", "answer", "enter", "undo", "pack"))
    sheet = found.sheet
    moves = [at for at, move in enumerate(sheet.web.moves) if move[1] == sheet.state]
    if word == "answer" and moves:
        return lambda one: one.answer(moves[0])
    if word == "enter" and moves:
        wish = tuple([draw.randint(-9, 9) for _ in sheet.said])
        return lambda one: one.enter(moves[-1], wish)
    if word == "undo":
        many = 0
        while many < len(found.deeds()) and found.deeds()[-1 - many][0] != "move" and draw.random() < 0.7:
            many += 1
        return lambda one: one.undo(many)
    if word == "pack":
        return lambda one: one.pack()
    names = sheet.web.states + sheet.web.quantities
    can = [deed for deed in all_deeds(draw, sheet) if is_deed(sheet, deed) and "new" not in names]
    can.append(("state", "a" + draw.choice("bcdefg"))) if len(sheet.web.states) < 8 else None
    can = [deed for deed in can if is_deed(sheet, deed)]
    if not can:
        return lambda one: one.pack()
    deed = draw.choice(can)
    return lambda one: one.do(deed)


class Point78(unittest.TestCase):
    def refused(self, word, call, *told_values):
        with self.assertRaises(Refused, msg=told(told_values)) as caught:
            call(*told_values)
        self.assertEqual(caught.exception.word, word)

    def test_example(self):
        disk = Disk((0,) * 600)
        found = start_desk(disk, Sheet(POUR, 0, (2,)))
        self.assertEqual((found.enter(0, (9,)), heaviest_rule(found.sheet, 0, "now", 0, 1), found.do(("ease", 0, 2))), ((5,), 5, ("ease", 0, 2)))
        self.assertEqual((found.enter(0, (1,)), heaviest_rule(found.sheet, 0, "rise", 1, 1)), ((1,), 0))
        self.assertEqual(Desk(Disk(tuple([disk.look(at) for at in range(600)]))).sheet.said, (1,))

    def test_start(self):
        disk = Disk((0,) * 600)
        for value in [*ODD, POUR, Sheet(POUR, 0, (9,)), Sheet(POUR, 1, (2,)), Sheet(POUR, 0, None)]:
            self.refused("sheet", desk.start_desk, disk, value)
        self.assertEqual(disk.events(), ())
        found = start_desk(disk, SHEET)
        self.assertIsInstance(found, Desk)
        self.assertIs(found.disk, disk)
        self.assertEqual((found.sheet, found.begun(), found.deeds()), (SHEET, SHEET, ()))
        found.answer(0)
        again = start_desk(disk, PAIR)
        self.assertEqual((again.sheet, again.deeds()), (PAIR, ()))
        self.refused("room", desk.start_desk, Disk((0,) * 50), SHEET)
        with self.assertRaises(Broken) as caught:
            Desk(Disk((0,) * 600))
        self.assertEqual(caught.exception.word, "desk")

    def test_calls(self):
        found = start_desk(Disk((0,) * 900), SHEET)
        self.assertEqual(found.do(("move", 0, (3,))), ("move", 0, (3,)))
        self.assertEqual(found.answer(move=0), (3,))
        self.assertEqual(found.enter(move=0, wish=(4,)), (4,))
        self.assertEqual(found.do(deed=("state", "dry")), ("state", "dry"))
        self.assertEqual(found.deeds(), (("move", 0, (3,)), ("move", 0, (3,)), ("move", 0, (4,)), ("state", "dry")))
        self.assertEqual((found.begun(), found.sheet), (SHEET, sheet_after_all(SHEET, found.deeds())))
        self.assertIsNone(found.undo(many=1))
        self.assertEqual((found.deeds(), found.sheet.web.states), ((("move", 0, (3,)), ("move", 0, (3,)), ("move", 0, (4,))), ("wet",)))
        found.do(("ease", 0, 2))
        self.assertIsNone(found.pack())
        self.assertEqual((found.deeds(), found.begun()), ((), found.sheet))
        self.assertEqual(found.sheet, Sheet(Web(("level",), ("wet",), (("pour", 0, 0, POUR.moves[0][3][:2]),)), 0, (4,)))
        self.assertEqual(seen(Desk(Disk(present(found.disk)))), seen(found))

    def test_errors(self):
        found = start_desk(Disk((0,) * 900), SHEET)
        found.do(("state", "dry"))
        before, events = seen(found), found.disk.events()
        for value in [*ODD, ("move", 0, (9,)), ("move", 1, (2,)), ("rule", 0, ("rise", 1, 1, 1)), ("state", "wet"), ("leave", 2)]:
            self.refused("deed", found.do, value)
            if told(value) != "0":
                self.refused("move", found.answer, value)
                self.refused("move", found.enter, value, None)
        start = found.sheet.state
        moves = [at for at, move in enumerate(found.sheet.web.moves) if move[1] == start]
        self.assertEqual(moves, [0])
        for value in [*ODD, (10 ** 9 + 1,), (2, 2)]:
            if told(value) != "(0)":
                self.refused("wish", found.enter, 0, value)
            if told(value) not in ("0", "1"):
                self.refused("deeds", found.undo, value)
        self.refused("deeds", found.undo, 2)
        self.refused("deeds", found.undo, -1)
        self.assertEqual((seen(found), found.disk.events()), (before, events))
        found.answer(0)
        found.do(("bar", 0))
        self.refused("said", found.undo, 2)
        self.refused("said", found.undo, 3)
        self.refused("deeds", found.undo, 4)
        found.undo(1)
        self.refused("said", found.undo, 1)
        found.undo(0)
        far = start_desk(Disk((0,) * 900), Sheet(Web(("x",), ("a", "b"), (("m", 0, 1, (("rise", 1, 1, 1),)),)), 0, (10 ** 9,)))
        self.refused("values", far.answer, 0)
        self.refused("values", far.enter, 0, (0,))

    def test_records(self):
        draw = random.Random(1)
        words = {}
        for sheet in open_sheets(draw, 80):
            record = octets.sheet_record(sheet)
            self.assertTrue(all([0 <= octet < 256 for octet in record]))
            self.assertEqual(octets.sheet_of(record), sheet)
            self.assertLessEqual(len(record) + 8, weight_of(sheet))
            for deed in all_deeds(draw, sheet):
                if is_deed(sheet, deed):
                    words[deed[0]] = True
                    record = octets.deed_record(deed)
                    self.assertTrue(all([0 <= octet < 256 for octet in record]))
                    self.assertEqual(octets.deed_of(record), deed)
                    self.assertLessEqual(len(record) + 8, weight_of(deed))
        self.assertEqual(len(words), 8)
        rules = (("rise", 6, 6, 10 ** 6), ("fall", 0, 6, -10 ** 6), ("now", 6, 0, 0)) * 10
        great = Sheet(Web(("abcdef", "abcdeg", "abcdeh", "abcdei", "abcdej", "zzzzzz"), tuple(["state" + word for word in STATES_WORDS]),
                          tuple([("moving", at % 8, 7, rules) for at in range(40)])), 7, (10 ** 9, -10 ** 9, 0, 1, -1, 255))
        for part, show, read in ((great, octets.sheet_record, octets.sheet_of), (("add", great.web.moves[5]), octets.deed_record, octets.deed_of),
                                 (("move", 39, great.said), octets.deed_record, octets.deed_of), (("rule", 39, rules[0]), octets.deed_record, octets.deed_of),
                                 (("quantity", "zzzzzz", -10 ** 9), octets.deed_record, octets.deed_of), (("ease", 39, 29), octets.deed_record, octets.deed_of),
                                 (("leave", 6), octets.deed_record, octets.deed_of)):
            self.assertEqual(read(show(part)), part)
            self.assertLessEqual(len(show(part)) + 8, weight_of(part))

    def test_room(self):
        # Deeds up to the promised weight are kept, on disks of many sizes.
        draw = random.Random(2)
        for cells in (*range(220, 300, 7), 400, 999, 2001):
            most = cells // 2 - 8
            sheet = SHEET
            if weight_of(sheet) > most:
                continue
            found, weight, many = start_desk(Disk((0,) * cells), sheet), weight_of(sheet), 0
            while True:
                deed = draw.choice((("move", 0, (draw.randint(found.sheet.said[0], 5),)), ("rule", 0, ("now", 0, 1, -draw.randint(1, 9))), ("state", "a" + "bcdefgh"[many % 7])))
                if not is_deed(found.sheet, deed) or weight + weight_of(deed) > most:
                    break
                found.do(deed)
                weight += weight_of(deed)
                many += 1
            before = seen(found)
            self.assertEqual(seen(Desk(Disk(present(found.disk)))), before)
            # And once there is no room, nothing has changed.
            refused = False
            for _ in range(cells):
                before, events = seen(found), found.disk.events()
                try:
                    found.do(("move", 0, found.sheet.said))
                except Refused as error:
                    self.assertEqual(error.word, "room")
                    refused = True
                    break
            self.assertTrue(refused)
            self.assertEqual((seen(found), found.disk.events()), (before, events))
            found.pack()
            self.assertEqual((found.deeds(), found.begun()), ((), before[2]))

    def test_cuts(self):
        draw = random.Random(3)
        cuts, words = 0, set()
        for sheet in open_sheets(draw, 7):
            cells = (0,) * 900
            disk = Disk(cells)
            found = start_desk(disk, sheet)
            for _ in range(9):
                call = random_call(draw, found)
                before, begin = seen(found), len(disk.events())
                call(found)
                behind, events = seen(found), disk.events()
                words |= {deed[0] for deed in found.deeds()}
                for at in range(begin, len(events) + 1):
                    for told_octets in octets_at(cells, events[:at], draw):
                        left = cut_cells(cells, events[:at], told_octets)
                        other = Desk(Disk(left))
                        self.assertIn(seen(other), (before, behind))
                        if at == len(events):
                            self.assertEqual(seen(other), behind)
                        cuts += 1
                        if draw.random() < 0.05:
                            # Going on from there.
                            self.go_on(draw, other)
                self.assertIs(is_sheet(found.sheet), True)
                self.assertIsNone(attack_on(found.sheet.web, found.sheet.state, found.sheet.said))
        self.assertTrue(cuts > 2000 and len(words) > 6, (cuts, words))

    def go_on(self, draw, found):
        for _ in range(2):
            before = seen(found)
            cells, begin = found.disk.cells, len(found.disk.events())
            random_call(draw, found)(found)
            events = found.disk.events()
            at = draw.randint(begin, len(events))
            for told_octets in octets_at(cells, events[:at], draw):
                self.assertIn(seen(Desk(Disk(cut_cells(cells, events[:at], told_octets)))), (before, seen(found)))
            self.assertEqual(seen(Desk(Disk(present(found.disk)))), seen(found))

    def test_cut_starts(self):
        draw = random.Random(4)
        for first in (None, PAIR):
            disk = Disk((0,) * 700)
            if first is not None:
                start_desk(disk, first).do(("state", "q"))
            cells = present(disk)
            other = Disk(cells)
            start_desk(other, SHEET)
            events = other.events()
            for at in range(len(events) + 1):
                for told_octets in octets_at(cells, events[:at], draw):
                    left = Disk(cut_cells(cells, events[:at], told_octets))
                    records = Journal(left).records()
                    if records == ():
                        self.assertTrue(first is None and at < len(events))
                        with self.assertRaises(Broken):
                            Desk(left)
                    else:
                        sheet = Desk(left).begun()
                        self.assertIn(sheet, (first, SHEET))
                        self.assertTrue(at < len(events) or sheet == SHEET)

    def test_answers(self):
        draw = random.Random(5)
        for sheet in open_sheets(draw, 60):
            found = start_desk(Disk((0,) * 3000), sheet)
            for _ in range(5):
                present_sheet = found.sheet
                moves = [at for at, move in enumerate(present_sheet.web.moves) if move[1] == present_sheet.state]
                if not moves:
                    break
                move, wish = draw.choice(moves), tuple([draw.randint(-5, 5) for _ in sheet.said])
                if draw.random() < 0.5:
                    values, expected = found.answer(move), move_deed(present_sheet, move)
                else:
                    values, expected = found.enter(move, wish), near_deed(present_sheet, move, wish)
                self.assertEqual(found.deeds()[-1], ("move", move, values))
                self.assertEqual(values, expected[2])
                self.assertEqual(found.sheet, sheet_after(present_sheet, ("move", move, values)))

    def test_great(self):
        free = Web(NAMES, STATES, tuple([(*move[:3], move[3][:27]) for move in FULL.moves]))
        self.assertLessEqual(weight_of(Sheet(free, 0, (0,) * 6)), 9992)
        found = start_desk(Disk((0,) * 20000), Sheet(free, 0, (10 ** 9,) * 6))
        many = 0
        while many < 8:
            found.answer(0)
            many += 1
        self.assertEqual(seen(Desk(Disk(present(found.disk)))), seen(found))
        small = start_desk(Disk((0,) * 20000), SHEET)
        for at in range(240):
            small.do(("move", 0, (2,)))
        self.assertEqual(len(Desk(Disk(present(small.disk))).deeds()), 240)
        small.pack()
        for at in range(10):
            small.do(("rule", 0, ("now", 0, 1, -at)))
        small.undo(10)
        self.assertEqual(small.sheet, SHEET)


STATES_WORDS = ("a", "b", "c", "d", "e", "f", "g", "h")

if __name__ == "__main__":
    unittest.main()
