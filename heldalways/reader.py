"""Reading texts of webs, values, runs and scripts, and making begun ones whole."""

from heldalways.errors import InvalidText
from heldalways.lexer import marks_in
from heldalways.sentences import WebReading, is_numeral_up_to
from heldalways.steps import MOST_STEPS
from heldalways.webs import MOST_VALUE


class ValuesReading:
    """What the marks of a text of values have told so far; `phase` tells what may come."""

    def __init__(self, web):
        self.names = web.quantities
        self.found = {}
        self.name = ""
        self.negative = False
        self.phase = "name" if web.quantities else "closed"

    def take(self, mark):
        """Whether some text goes on with a mark behind those taken; then it is taken."""
        if self.phase == "name":
            return self.take_name(mark)
        if self.phase == "closed":
            if mark != "," or len(self.found) == len(self.names):
                return False
            self.phase = "name"
            return True
        if self.phase == "number" and mark == "-":
            self.negative = True
            self.phase = "amount"
            return True
        return self.take_number(mark)

    def take_name(self, mark):
        if mark not in self.names or mark in self.found:
            return False
        self.name = mark
        self.negative = False
        self.phase = "number"
        return True

    def take_number(self, mark):
        if not is_numeral_up_to(mark, 1 if self.negative else 0, MOST_VALUE):
            return False
        self.found[self.name] = -int(mark) if self.negative else int(mark)
        self.phase = "closed"
        return True

    def lacking(self):
        """Marks that make the text whole."""
        names = [name for name in self.names if name not in self.found]
        marks = []
        if self.phase in ("number", "amount"):
            marks.append("1" if self.negative else "0")
            names = [name for name in names if name != self.name]
        for name in names:
            marks.extend([",", name, "0"])
        return tuple(marks[1:] if self.phase == "name" else marks)

    def told(self):
        """The values of a whole text."""
        return tuple([self.found[name] for name in self.names])


def move_numbered(web, state, mark):
    """The move from a state whose numeral a mark is, None for any other mark."""
    if not is_numeral_up_to(mark, 0, len(web.moves) - 1) or web.moves[int(mark)][1] != state:
        return None
    return int(mark)


class RunReading:
    """What the marks of a text of a run have told so far; `phase` tells what may come."""

    def __init__(self, web):
        self.web = web
        self.phase = "begun"
        self.state = None
        self.heads = []
        self.said = []
        self.line = None

    def take(self, mark):
        """Whether some text goes on with a mark behind those taken; then it is taken."""
        if self.phase == "values":
            return self.take_value(mark)
        if self.phase == "colon":
            self.phase = "values"
            return mark == ":"
        if mark == "\n":
            return True
        if self.phase == "begun":
            return mark in self.web.states and self.begin_line(self.web.states.index(mark))
        move = move_numbered(self.web, self.state, mark)
        return move is not None and len(self.heads) <= MOST_STEPS and self.begin_line(move)

    def begin_line(self, head):
        """Takes the first mark of a line: the number of a state, later of a move."""
        self.state = self.web.moves[head][2] if self.heads else head
        self.heads.append(head)
        self.line = ValuesReading(self.web)
        self.phase = "colon" if self.web.quantities else "values"
        return True

    def take_value(self, mark):
        if mark != "\n" or self.line.lacking() != ():
            return self.line.take(mark)
        self.said.append(self.line.told())
        self.phase = "line"
        return True

    def lacking(self):
        """Marks that make the text whole."""
        if self.phase == "line":
            return ()
        values = self.line
        begin = ()
        if self.phase == "begun":
            values = ValuesReading(self.web)
            begin = (self.web.states[0],)
        colon = (":",) if self.phase != "values" and self.web.quantities else ()
        return (*begin, *colon, *values.lacking())

    def told(self):
        """The run of a whole text."""
        said = self.said if self.phase == "line" else [*self.said, self.line.told()]
        return (self.heads[0], said[0]), tuple(zip(self.heads[1:], said[1:]))


class ScriptReading:
    """What the marks of a text of a script have told so far: it is whole behind each one."""

    def __init__(self, web, state):
        self.web = web
        self.state = state
        self.script = []

    def take(self, mark):
        """Whether some text goes on with a mark behind those taken; then it is taken."""
        move = move_numbered(self.web, self.state, mark)
        if move is None or len(self.script) == MOST_STEPS:
            return False
        self.script.append(move)
        self.state = self.web.moves[move][2]
        return True

    def lacking(self):
        return ()

    def told(self):
        return tuple(self.script)


def take_all(reading, text):
    """Takes the marks of any value as a text."""
    if not isinstance(text, str):
        raise InvalidText(-1, -1)
    for line, at, mark in marks_in(text):
        if not reading.take(mark):
            raise InvalidText(line, at)


def read(reading, text):
    take_all(reading, text)
    if reading.lacking() != ():
        lines = text.split("\n")
        raise InvalidText(len(lines) - 1, len(lines[-1]))
    return reading.told()


def completed(reading, text):
    take_all(reading, text)
    return text + "".join([f" {mark}" for mark in reading.lacking()])


def read_web(text):
    return read(WebReading(), text)


def read_values(web, text):
    return read(ValuesReading(web), text)


def read_run(web, text):
    return read(RunReading(web), text)


def read_script(web, state, text):
    return read(ScriptReading(web, state), text)


def completed_web(text):
    return completed(WebReading(), text)


def completed_values(web, text):
    return completed(ValuesReading(web), text)


def completed_run(web, text):
    return completed(RunReading(web), text)
