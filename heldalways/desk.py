"""The desk: a plant run live, with a journal that may be cut anywhere."""

from heldalways.deeds import is_deed, sheet_after, sheet_after_all
from heldalways.errors import Broken, Refused
from heldalways.journal import Journal
from heldalways.kinds import is_within
from heldalways.octets import deed_of, deed_record, sheet_of, sheet_record
from heldalways.promises import move_deed, near_deed
from heldalways.sheets import is_sheet


def start_desk(disk, sheet):
    if not is_sheet(sheet):
        raise Refused("sheet")
    Journal(disk).renew((sheet_record(sheet),))
    return Desk(disk)


class Desk:
    """The sheet and the deeds that a disk keeps; `sheet` is the present one."""

    def __init__(self, disk):
        self.disk = disk
        self._journal = Journal(disk)
        records = self._journal.records()
        if records == ():
            raise Broken("desk")
        self._begun = sheet_of(records[0])
        self._done = [deed_of(record) for record in records[1:]]
        self.sheet = sheet_after_all(self._begun, self._done)

    def do(self, deed):
        if not is_deed(self.sheet, deed):
            raise Refused("deed")
        self._journal.write(deed_record(deed))
        self._done.append(deed)
        self.sheet = sheet_after(self.sheet, deed)
        return deed

    def answer(self, move):
        return self.do(move_deed(self.sheet, move))[2]

    def enter(self, move, wish):
        return self.do(near_deed(self.sheet, move, wish))[2]

    def deeds(self):
        return tuple(self._done)

    def begun(self):
        return self._begun

    def undo(self, many):
        if not is_within(many, 0, len(self._done)):
            raise Refused("deeds")
        kept = self._done[:len(self._done) - many]
        if any([deed[0] == "move" for deed in self._done[len(kept):]]):
            raise Refused("said")
        self._journal.drop(many)
        self._done = kept
        self.sheet = sheet_after_all(self._begun, kept)

    def pack(self):
        self._journal.renew((sheet_record(self.sheet),))
        self._begun = self.sheet
        self._done = []
