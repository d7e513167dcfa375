"""The judge: whether answers to commands are right, and whether statements are so."""

from heldalways.answers import is_answer
from heldalways.attacks import is_attack
from heldalways.commands import is_command
from heldalways.court import is_verdict, is_verdict_at
from heldalways.easing import is_least_easing
from heldalways.errors import Refused
from heldalways.excursions import are_items
from heldalways.faults import is_fault
from heldalways.judgment import is_judgment
from heldalways.kinds import is_index, is_integer, is_tuple_of, is_tuple_up_to, is_within
from heldalways.leastroom import is_room_paper
from heldalways.promises import least_table
from heldalways.pumps import is_pump, is_ring_paper
from heldalways.repairpapers import is_bar_paper, is_strike_paper
from heldalways.repairs import are_prices
from heldalways.rooms import are_rooms
from heldalways.runs import answer_to, place_asked, rules_asked, sheet_behind, wish_told
from heldalways.sheets import is_sheet
from heldalways.tables import has_form, is_table, keeps_table
from heldalways.webs import Web, are_values

MOST_COMMANDS = 60
MOST_SHEET_WEIGHT = 1000
MOST_SHEET_VALUE = 100000000
# For each word of statements how many values stand behind it.
PARTS = {
    "items": 2, "ring": 2, "pump": 2, "table": 2, "court": 2, "judgment": 2, "verdict": 3, "fault": 3,
    "held": 4, "attack": 4, "strike": 4, "easing": 4, "bar": 5, "room": 5, "pair": 4, "run": 3}


def is_same(expected, value):
    """Whether any value is a certain one: an integer, a string, None or a tuple of such."""
    if isinstance(expected, tuple):
        if not is_tuple_of(value, len(expected)):
            return False
        return all([is_same(part, beside) for part, beside in zip(expected, value)])
    if expected is None:
        return value is None
    if isinstance(expected, str):
        return isinstance(value, str) and value == expected
    return is_integer(value) and value == expected


def distance_between(values, wish):
    return max([0, *[abs(number - wished) for number, wished in zip(values, wish)]])


def said_numbers(expected, value):
    """The numbers said in any value as a result, None unless it is as expected but for these."""
    if not is_tuple_of(value, 2) or not is_same("said", value[0]) or not is_tuple_of(value[1], len(expected[1])):
        return None
    if not all([is_tuple_of(pair, 2) for pair in value[1]]):
        return None
    if not all([is_same(pair[0], beside[0]) for pair, beside in zip(expected[1], value[1])]):
        return None
    return tuple([number for _, number in value[1]])


def is_near(sheet, command, expected, value):
    """Whether any value is a right result of a command that lets a move come, and another one is."""
    values = said_numbers(expected, value)
    if values is None or not are_values(sheet.web, values):
        return False
    if not is_answer(sheet.web, least_table(sheet), sheet.said, command[1], values):
        return False
    wish = wish_told(sheet, command)
    nearest = [number for _, number in expected[1]]
    return distance_between(values, wish) == distance_between(nearest, wish)


def is_right_denial(sheet, command, paper):
    """Whether any value is a right paper for a command whose result is no."""
    broken = rules_asked(sheet, command)
    if any([is_same(("rule", number), paper) for number in broken]):
        return True
    web, state, values = place_asked(sheet, command)
    return is_attack(web, state, values, paper)


def is_right_pair(sheet, command, value):
    """Whether any value is a right pair of a result and a paper."""
    if not is_tuple_of(value, 2):
        return False
    result, paper = value
    expected, _ = answer_to(sheet, command)
    if expected[0] == "said":
        return paper is None and is_near(sheet, command, expected, result)
    if not is_same(expected, result):
        return False
    return is_right_denial(sheet, command, paper) if expected == ("no",) else paper is None


def run_fault(sheet, commands, answers):
    if not isinstance(answers, tuple):
        return 0
    for at, command in enumerate(commands):
        if at == len(answers) or not is_right_pair(sheet, command, answers[at]):
            return at
        sheet = sheet_behind(sheet, command, answers[at][0])
    return len(commands) if len(answers) > len(commands) else None


def is_small_sheet(value):
    """Whether any value is an open sheet on which commands may be run."""
    if not is_sheet(value):
        return False
    weights = [rule[3] for move in value.web.moves for rule in move[3]]
    if not all([is_within(weight, -MOST_SHEET_WEIGHT, MOST_SHEET_WEIGHT) for weight in weights]):
        return False
    return all([is_within(number, -MOST_SHEET_VALUE, MOST_SHEET_VALUE) for number in value.said])


def is_right_run(sheet, commands, answers):
    """Whether any values are a sheet, commands, and answers without a fault."""
    if not is_tuple_up_to(commands, MOST_COMMANDS) or not all([is_command(command) for command in commands]):
        return False
    return is_small_sheet(sheet) and run_fault(sheet, commands, answers) is None


def is_so_of_web(word, web, value):
    """Whether a statement about a web and any value is so."""
    if word == "items":
        return are_items(web, value)
    if word == "ring":
        return is_ring_paper(web, value)
    if word == "pump":
        return is_pump(web, value)
    if word == "table":
        return is_table(web, value)
    if word == "court":
        return is_verdict(web, value)
    return is_judgment(web, value)


def is_so_at(word, web, state, values, value):
    """Whether a statement about a web, any values as a state and values, and any value is so."""
    if not is_index(state, len(web.states)) or not are_values(web, values):
        return False
    if word == "held":
        return is_table(web, value) and keeps_table(value, state, values)
    if word == "attack":
        return is_attack(web, state, values, value)
    if word == "strike":
        return is_strike_paper(web, state, values, value)
    return is_least_easing(web, state, values, value)


def is_bar_so(web, state, values, prices, paper):
    if not is_index(state, len(web.states)) or not are_values(web, values) or not are_prices(web, prices):
        return False
    return is_bar_paper(web, state, values, prices, paper)


def is_room_so(web, rooms, place, state, paper):
    if not are_rooms(web, rooms) or not is_index(place, len(rooms)) or not is_index(state, len(web.states)):
        return False
    try:
        return is_room_paper(web, rooms, place, state, paper)
    except Refused:
        return False


def is_so(value):
    if not isinstance(value, tuple) or value == () or not isinstance(value[0], str) or value[0] not in PARTS:
        return False
    word, *parts = value
    if len(parts) != PARTS[word]:
        return False
    if word == "pair":
        sheet, command, result, paper = parts
        return is_right_run(sheet, (command,), ((result, paper),))
    if word == "run":
        return is_right_run(*parts)
    web = parts[0]
    if not isinstance(web, Web):
        return False
    if word == "verdict":
        return is_index(parts[1], len(web.states)) and is_verdict_at(*parts)
    if word == "fault":
        return has_form(web, parts[1]) and is_fault(*parts)
    if word == "bar":
        return is_bar_so(*parts)
    if word == "room":
        return is_room_so(*parts)
    return is_so_of_web(word, *parts) if len(parts) == 2 else is_so_at(word, *parts)


def not_so(values):
    return tuple([at for at, value in enumerate(values) if not is_so(value)])
