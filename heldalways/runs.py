"""Commands run on sheets, with papers for what is denied."""

from heldalways.answers import answer_ranges
from heldalways.commands import read_commands
from heldalways.deeds import is_deed, sheet_after, web_with_rule
from heldalways.errors import Refused
from heldalways.kinds import is_index
from heldalways.promises import least_table, near_deed
from heldalways.quick import attack_on
from heldalways.steps import broken_rules, starts_at
from heldalways.webs import MOST_RULES, quantity_number, state_number

ANSWERING = ("come", "wish")
ASKING = ("may", "bear", "hold")
REFUSED = ("refused",)


def point_number(web, point):
    return 0 if point == "0" else quantity_number(web, point)


def rule_told(web, command):
    """The rule of a command about one; refused for a point that is not there."""
    _, _, kind, one, other, weight = command
    return (kind, point_number(web, one), point_number(web, other), weight)


def values_told(web, pairs, others):
    """The values that pairs tell, with those of others for the other quantities.

    Refused for a name that is none or stands twice, and for a quantity
    without a value, which is None among the others.
    """
    found = {}
    for name, number in pairs:
        quantity = quantity_number(web, name)
        if quantity in found:
            raise Refused("pairs")
        found[quantity] = number
    values = tuple([found.get(at + 1, number) for at, number in enumerate(others)])
    if None in values:
        raise Refused("pairs")
    return values


def all_told(web, pairs):
    """The values that pairs tell that must name all quantities."""
    return values_told(web, pairs, (None,) * len(web.quantities))


def wish_told(sheet, command):
    """What is wished when a move comes."""
    pairs = command[2] if command[0] == "wish" else ()
    return values_told(sheet.web, pairs, sheet.said)


def deed_told(sheet, command):
    """The deed that a command tells that is no answer; refused for what is not there."""
    web = sheet.web
    word, *parts = command
    if word == "rule":
        return (word, parts[0], rule_told(web, command))
    if word == "add":
        name, start, end = parts
        return (word, (name, state_number(web, start), state_number(web, end), ()))
    if word == "leave":
        return (word, quantity_number(web, parts[0]))
    return (word, *parts)


def check_start(sheet, move):
    """Refused for a move that does not start at the present state."""
    if not starts_at(sheet.web, sheet.state, move):
        raise Refused("move")


def may_asked(sheet, command):
    """The move's end, the values and the rules that they do not keep."""
    _, move, pairs = command
    check_start(sheet, move)
    values = all_told(sheet.web, pairs)
    return sheet.web.moves[move][2], values, broken_rules(sheet.web, move, sheet.said, values)


def bear_asked(sheet, command):
    """The web with a further rule."""
    web, move = sheet.web, command[1]
    if not is_index(move, len(web.moves)) or len(web.moves[move][3]) == MOST_RULES:
        raise Refused("move")
    return web_with_rule(web, move, rule_told(web, command))


def place_asked(sheet, command):
    """The web, the state and the values of which a command asks whether they are held for ever."""
    web = sheet.web
    if command[0] == "bear":
        return bear_asked(sheet, command), sheet.state, sheet.said
    if command[0] == "hold":
        return web, state_number(web, command[1]), all_told(web, command[2])
    end, values, _ = may_asked(sheet, command)
    return web, end, values


def rules_asked(sheet, command):
    """The rules that the values of a command do not keep, none if it asks of no move."""
    return may_asked(sheet, command)[2] if command[0] == "may" else ()


def denial(sheet, command):
    """Why the answer to a command is no, None if it is yes."""
    web, state, values = place_asked(sheet, command)
    broken = rules_asked(sheet, command)
    return attack_on(web, state, values) if broken == () else ("rule", broken[0])


def pairs_of(web, values):
    return tuple(zip(web.quantities, values))


def ranges_told(sheet, move):
    check_start(sheet, move)
    ranges = answer_ranges(sheet.web, least_table(sheet), sheet.said, move)
    return tuple([(name, low, high) for name, (low, high) in zip(sheet.web.quantities, ranges)])


def granted(sheet, command):
    """The result of a command and its paper; refused where the result is that."""
    web = sheet.web
    word = command[0]
    if word in ASKING:
        paper = denial(sheet, command)
        return (("yes",) if paper is None else ("no",)), paper
    if word in ANSWERING:
        deed = near_deed(sheet, command[1], wish_told(sheet, command))
        return ("said", pairs_of(web, deed[2])), None
    if word == "now":
        return ("now", web.states[sheet.state], pairs_of(web, sheet.said)), None
    if word == "range":
        return ("ranges", ranges_told(sheet, command[1])), None
    if not is_deed(sheet, deed_told(sheet, command)):
        raise Refused("deed")
    return ("did",), None


def answer_to(sheet, command):
    """The result of a command and its paper."""
    try:
        return granted(sheet, command)
    except Refused:
        return REFUSED, None


def sheet_behind(sheet, command, result):
    """The sheet behind a command with a result."""
    if result[0] == "said":
        return sheet_after(sheet, ("move", command[1], tuple([number for _, number in result[1]])))
    return sheet_after(sheet, deed_told(sheet, command)) if result[0] == "did" else sheet


def run_with_papers(sheet, commands):
    answers = []
    for command in commands:
        answers.append(answer_to(sheet, command))
        sheet = sheet_behind(sheet, command, answers[-1][0])
    return tuple(answers)


def run_commands(sheet, commands):
    return tuple([result for result, _ in run_with_papers(sheet, commands)])


def sheet_of_run(sheet, commands, results):
    for command, result in zip(commands, results):
        sheet = sheet_behind(sheet, command, result)
    return sheet


def show_result(result):
    words = []
    for part in result:
        if isinstance(part, tuple):
            for row in part:
                words.extend(["-" if told is None else str(told) for told in row])
        else:
            words.append(part)
    return " ".join(words)


def run_lines(sheet, text):
    return tuple([show_result(result) for result in run_commands(sheet, read_commands(text))])
