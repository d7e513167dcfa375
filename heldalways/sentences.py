"""Reading the text of a web, mark by mark."""

from heldalways.kinds import is_name, is_numeral
from heldalways.webs import MOST_MOVES, MOST_QUANTITIES, MOST_RULES, MOST_STATES, MOST_WEIGHT, Web, plain_rule

RELATIONS = (">=", "<=", "=")
LACKING = {
    "begun": ("/", "a"), "quantities": ("/", "a"), "no state": ("a",), "states": (), "line": (), "ends": (),
    "left": ("0", ">=", "0"), "name": (">=", "0"), "relation": (">=", "0"), "right": ("0",),
    "added": (), "amount": ("1",), "closed": ()}


def is_numeral_up_to(mark, least, most):
    # A longer numeral is greater, whatever its digits: it need not be read.
    return is_numeral(mark) and len(mark) <= len(str(most)) and least <= int(mark) <= most


class WebReading:
    """What the marks of a text of a web have told so far.

    `phase` tells what may come; the other attributes are what has come: in
    the header, in the move, and in the sentence that is being read.
    """

    def __init__(self):
        self.phase = "begun"
        self.quantities = []
        self.states = []
        self.moves = []
        self.head = []
        self.rules = []
        self.left = None
        self.relation = ""
        self.right = None
        self.sign = 1
        self.amount = 0

    def take(self, mark):
        """Whether some text goes on with a mark behind those taken; then it is taken."""
        action = TAKEN[self.phase]
        phase = action(self, mark)
        if phase is None:
            return False
        self.phase = phase
        return True

    def lacking(self):
        """Marks that make the text whole."""
        if self.phase == "other":
            return ("'",) if self.left[0] == "old" else ()
        if self.phase in ("start", "end"):
            return (self.states[0],) * (3 - len(self.head))
        return LACKING[self.phase]

    def told(self):
        """The web of a whole text."""
        moves = self.moves if self.phase in ("states", "line") else [*self.moves, move_read(self)]
        return Web(tuple(sorted(self.quantities)), tuple(sorted(self.states)), tuple(moves))


def move_read(reading):
    """The move of the line that is being read."""
    name, start, end = reading.head
    states = sorted(reading.states)
    rules = [*reading.rules, *sentence_rules(reading)]
    return (name, states.index(start), states.index(end), tuple(rules))


def difference_rule(greater, lesser, weight):
    """The plain rule that one value is at least another one with a weight added."""
    age, number = greater
    lesser_age, lesser_number = lesser
    if age == "old":
        rule = ("fall", number, lesser_number, weight)
    elif lesser_age == "old":
        rule = ("rise", lesser_number, number, weight)
    else:
        rule = ("now", lesser_number, number, weight)
    return plain_rule(rule)


def sentence_rules(reading):
    """The rules of the sentence that is being read, none between sentences."""
    if reading.left is None:
        return []
    amount = reading.sign * reading.amount
    rules = []
    if reading.relation != "<=":
        rules.append(difference_rule(reading.left, reading.right, amount))
    if reading.relation != ">=":
        rules.append(difference_rule(reading.right, reading.left, -amount))
    return rules


def close_sentence(reading):
    reading.rules.extend(sentence_rules(reading))
    reading.left = None
    reading.right = None
    reading.sign = 1
    reading.amount = 0


def close_move(reading):
    reading.moves.append(move_read(reading))
    close_sentence(reading)
    reading.head = []
    reading.rules = []
    return "line"


def point_named(reading, mark):
    """The old value of the quantity with a name, None for any other mark."""
    if mark not in reading.quantities:
        return None
    return ("old", sorted(reading.quantities).index(mark) + 1)


def take_begun(reading, mark):
    return "begun" if mark == "\n" else take_quantity(reading, mark)


def take_quantity(reading, mark):
    if mark == "/":
        return "no state"
    if not is_name(mark) or mark in reading.quantities or len(reading.quantities) == MOST_QUANTITIES:
        return None
    reading.quantities.append(mark)
    return "quantities"


def take_state(reading, mark):
    if not is_name(mark) or mark in reading.states or len(reading.states) == MOST_STATES:
        return None
    reading.states.append(mark)
    return "states"


def take_states(reading, mark):
    return "line" if mark == "\n" else take_state(reading, mark)


def take_line(reading, mark):
    if mark == "\n":
        return "line"
    if not is_name(mark) or len(reading.moves) == MOST_MOVES:
        return None
    reading.head = [mark]
    return "start"


def take_start(reading, mark):
    if mark not in reading.states:
        return None
    reading.head.append(mark)
    return "end"


def take_end(reading, mark):
    return None if take_start(reading, mark) is None else "ends"


def take_ends(reading, mark):
    if mark == "\n":
        return close_move(reading)
    return "left" if mark == ":" else None


def take_left(reading, mark):
    reading.left = ("ground", 0) if mark == "0" else point_named(reading, mark)
    if reading.left is None:
        return None
    return "relation" if mark == "0" else "name"


def take_name(reading, mark):
    if mark == "'":
        reading.left = ("new", reading.left[1])
        return "relation"
    return take_relation(reading, mark)


def take_relation(reading, mark):
    if mark not in RELATIONS or mark == "=" and len(reading.rules) + 2 > MOST_RULES:
        return None
    reading.relation = mark
    return "right"


def take_right(reading, mark):
    reading.right = ("ground", 0)
    if mark == "-":
        reading.sign = -1
        return "amount"
    if is_numeral_up_to(mark, 0, MOST_WEIGHT):
        reading.amount = int(mark)
        return "closed"
    if reading.left[0] == "ground":
        return None
    reading.right = point_named(reading, mark)
    return None if reading.right is None else "other"


def take_other(reading, mark):
    if mark == "'":
        reading.right = ("new", reading.right[1])
        return "added"
    # Two old values make no rule of a move.
    return None if reading.left[0] == "old" else take_added(reading, mark)


def take_added(reading, mark):
    if mark in ("+", "-"):
        reading.sign = 1 if mark == "+" else -1
        return "amount"
    return take_closed(reading, mark)


def take_amount(reading, mark):
    if not is_numeral_up_to(mark, 1, MOST_WEIGHT):
        return None
    reading.amount = int(mark)
    return "closed"


def take_closed(reading, mark):
    if mark == "\n":
        return close_move(reading)
    if mark != "," or len(reading.rules) + len(sentence_rules(reading)) == MOST_RULES:
        return None
    close_sentence(reading)
    return "left"


TAKEN = {
    "begun": take_begun, "quantities": take_quantity, "no state": take_state, "states": take_states,
    "line": take_line, "start": take_start, "end": take_end, "ends": take_ends, "left": take_left,
    "name": take_name, "relation": take_relation, "right": take_right, "other": take_other,
    "added": take_added, "amount": take_amount, "closed": take_closed}
