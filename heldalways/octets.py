"""Sheets and deeds written as records of octets, and read again."""

from heldalways.kinds import KINDS
from heldalways.sheets import Sheet
from heldalways.webs import Web

WORDS = ("move", "rule", "ease", "add", "bar", "state", "quantity", "leave")
FIRST_LETTER = 97
LETTERS = "abcdefghijklmnopqrstuvwxyz"
# Values lie between -10^9 and 10^9, weights between -10^6 and 10^6.
VALUE_OCTETS = 4
VALUE_SHIFT = 2000000000
WEIGHT_OCTETS = 3
WEIGHT_SHIFT = 8000000


def number_octets(number, many):
    """A number in so many octets."""
    octets = []
    for _ in range(many):
        octets.append(number & 255)
        number = number // 256
    return octets


def value_octets(value):
    return number_octets(value + VALUE_SHIFT, VALUE_OCTETS)


def name_octets(name):
    return [len(name), *[ord(sign) for sign in name]]


def rule_octets(rule):
    kind, one, other, weight = rule
    return [KINDS.index(kind), one, other, *number_octets(weight + WEIGHT_SHIFT, WEIGHT_OCTETS)]


def move_octets(move):
    name, start, end, rules = move
    octets = [*name_octets(name), start, end, len(rules)]
    for rule in rules:
        octets.extend(rule_octets(rule))
    return octets


def values_octets(values):
    octets = [len(values)]
    for value in values:
        octets.extend(value_octets(value))
    return octets


def sheet_record(sheet):
    web = sheet.web
    octets = [len(web.quantities), len(web.states), len(web.moves), sheet.state]
    for name in (*web.quantities, *web.states):
        octets.extend(name_octets(name))
    for move in web.moves:
        octets.extend(move_octets(move))
    octets.extend(values_octets(sheet.said))
    return tuple(octets)


def deed_record(deed):
    word = deed[0]
    octets = [WORDS.index(word)]
    if word == "move":
        octets.extend([deed[1], *values_octets(deed[2])])
    elif word == "rule":
        octets.extend([deed[1], *rule_octets(deed[2])])
    elif word == "add":
        octets.extend(move_octets(deed[1]))
    elif word == "state":
        octets.extend(name_octets(deed[1]))
    elif word == "quantity":
        octets.extend([*name_octets(deed[1]), *value_octets(deed[2])])
    else:
        octets.extend(deed[1:])
    return tuple(octets)


class Reading:
    """A record that is read; `at` is the place of the next octet."""

    def __init__(self, record):
        self.record = record
        self.at = 0


def next_octet(reading):
    reading.at += 1
    return reading.record[reading.at - 1]


def next_number(reading, many):
    octets = [next_octet(reading) for _ in range(many)]
    number = 0
    for octet in reversed(octets):
        number = number * 256 + octet
    return number


def next_value(reading):
    return next_number(reading, VALUE_OCTETS) - VALUE_SHIFT


def next_name(reading):
    many = next_octet(reading)
    return "".join([LETTERS[next_octet(reading) - FIRST_LETTER] for _ in range(many)])


def next_rule(reading):
    kind, one, other = [next_octet(reading) for _ in range(3)]
    return (KINDS[kind], one, other, next_number(reading, WEIGHT_OCTETS) - WEIGHT_SHIFT)


def next_move(reading):
    name = next_name(reading)
    start, end, many = [next_octet(reading) for _ in range(3)]
    return (name, start, end, tuple([next_rule(reading) for _ in range(many)]))


def next_values(reading):
    return tuple([next_value(reading) for _ in range(next_octet(reading))])


def sheet_of(record):
    reading = Reading(record)
    quantities, states, moves, state = [next_octet(reading) for _ in range(4)]
    names = tuple([next_name(reading) for _ in range(quantities + states)])
    found = tuple([next_move(reading) for _ in range(moves)])
    web = Web(names[:quantities], names[quantities:], found)
    return Sheet(web, state, next_values(reading))


def deed_of(record):
    reading = Reading(record)
    word = WORDS[next_octet(reading)]
    if word == "move":
        move = next_octet(reading)
        return (word, move, next_values(reading))
    if word == "rule":
        move = next_octet(reading)
        return (word, move, next_rule(reading))
    if word == "add":
        return (word, next_move(reading))
    if word == "state":
        return (word, next_name(reading))
    if word == "quantity":
        name = next_name(reading)
        return (word, name, next_value(reading))
    return (word, *record[1:])
