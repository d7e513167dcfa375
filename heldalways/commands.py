"""Commands and their texts."""

from heldalways.errors import InvalidText
from heldalways.kinds import is_index, is_kind, is_name, is_numeral, is_tuple_of, is_within
from heldalways.webs import MOST_MOVES, MOST_RULES

MOST_COMMAND_WEIGHT = 1000
MOST_AMOUNT = 1000000
MOST_DIGITS = 7

FORMS = {
    "come": ("move",),
    "wish": ("move", "pairs"),
    "rule": ("move", "kind", "point", "point", "weight"),
    "ease": ("move", "number"),
    "add": ("name", "name", "name"),
    "bar": ("move",),
    "state": ("name",),
    "quantity": ("name", "amount"),
    "leave": ("name",),
    "now": (),
    "may": ("move", "pairs"),
    "bear": ("move", "kind", "point", "point", "weight"),
    "range": ("move",),
    "hold": ("name", "pairs"),
}
INTEGER_PARTS = ("move", "number", "weight", "amount")


def is_amount(value):
    return is_within(value, -MOST_AMOUNT, MOST_AMOUNT)


def is_point(value):
    return is_name(value) or isinstance(value, str) and value == "0"


def is_pair(value):
    return is_tuple_of(value, 2) and is_name(value[0]) and is_amount(value[1])


def is_part(part, value):
    """Whether any value is such a part of a command."""
    if part == "move":
        return is_index(value, MOST_MOVES)
    if part == "number":
        return is_index(value, MOST_RULES)
    if part == "weight":
        return is_within(value, -MOST_COMMAND_WEIGHT, MOST_COMMAND_WEIGHT)
    if part == "amount":
        return is_amount(value)
    if part == "kind":
        return is_kind(value)
    if part == "point":
        return is_point(value)
    if part == "pairs":
        return isinstance(value, tuple) and all([is_pair(pair) for pair in value])
    return is_name(value)


def is_command(value):
    if not isinstance(value, tuple) or value == () or not isinstance(value[0], str):
        return False
    if value[0] not in FORMS:
        return False
    parts = FORMS[value[0]]
    if len(value) != len(parts) + 1:
        return False
    return all([is_part(part, told) for part, told in zip(parts, value[1:])])


def integer_of(word):
    """The integer that a word tells, None if it tells none."""
    digits = word[1:] if word.startswith("-") else word
    if len(digits) > MOST_DIGITS or not is_numeral(digits) or word == "-0":
        return None
    return int(word)


def pairs_of(words):
    """The pairs that words tell, with None where an integer is wrong or lacks."""
    pairs = []
    for at in range(0, len(words), 2):
        number = integer_of(words[at + 1]) if at + 1 < len(words) else None
        pairs.append((words[at], number))
    return tuple(pairs)


def command_of(words):
    """What the words of a line tell: a command only if they are those of one."""
    parts = FORMS.get(words[0], ())
    told = [words[0]]
    at = 1
    for part in parts:
        if part == "pairs":
            told.append(pairs_of(words[at:]))
            at = len(words)
        elif at < len(words):
            told.append(integer_of(words[at]) if part in INTEGER_PARTS else words[at])
            at += 1
    return (*told, *words[at:])


def read_commands(text):
    if not isinstance(text, str):
        raise InvalidText(-1, -1)
    commands = []
    for line, row in enumerate(text.split("\n")):
        words = [word for word in row.split(" ") if word != ""]
        if words:
            command = command_of(words)
            if not is_command(command):
                raise InvalidText(line, 0)
            commands.append(command)
    return tuple(commands)


def show_command(command):
    words = []
    for told in command:
        if isinstance(told, tuple):
            for name, number in told:
                words.extend([name, str(number)])
        else:
            words.append(str(told))
    return " ".join(words)


def show_commands(commands):
    return "\n".join([show_command(command) for command in commands])
