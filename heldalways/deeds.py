"""Deeds: what changes a sheet and leaves it open."""

from heldalways.court import holds_ever
from heldalways.kinds import is_index, is_name, is_tuple_of
from heldalways.shapes import values_of, web_of
from heldalways.sheets import Sheet
from heldalways.steps import is_let, starts_at
from heldalways.webs import MOST_MOVES, MOST_QUANTITIES, MOST_RULES, MOST_STATES, Web, are_values, is_move, is_rule
from heldalways.webs import is_value, with_move, with_rules, without_moves

PARTS = {"move": 2, "rule": 2, "ease": 2, "add": 1, "bar": 1, "state": 1, "quantity": 2, "leave": 1}


def with_rules_at(web, move, rules):
    """The web in which one move has other rules."""
    return with_rules(web, [rules if at == move else other[3] for at, other in enumerate(web.moves)])


def web_with_rule(web, move, rule):
    return with_rules_at(web, move, (*web.moves[move][3], rule))


def place_among(names, name):
    """The place that a further name gets in a lot of names."""
    return len([other for other in names if other < name])


def shifted(number, place):
    """A number, one more if it is not below the place of what comes."""
    return number + 1 if number >= place else number


def put_in(parts, place, part):
    return (*parts[:place], part, *parts[place:])


def sheet_with_state(sheet, name):
    web = sheet.web
    place = place_among(web.states, name)
    moves = [(word, shifted(start, place), shifted(end, place), rules) for word, start, end, rules in web.moves]
    wider = Web(web.quantities, put_in(web.states, place, name), tuple(moves))
    return Sheet(wider, shifted(sheet.state, place), sheet.said)


def sheet_with_quantity(sheet, name, value):
    web = sheet.web
    place = place_among(web.quantities, name)
    moves = []
    for word, start, end, rules in web.moves:
        # The ground is point 0, the quantity at this place the next one.
        placed = [(kind, shifted(one, place + 1), shifted(other, place + 1), weight)
                  for kind, one, other, weight in rules]
        moves.append((word, start, end, tuple(placed)))
    wider = Web(put_in(web.quantities, place, name), web.states, tuple(moves))
    return Sheet(wider, sheet.state, put_in(sheet.said, place, value))


def sheet_without_quantity(sheet, quantity):
    lot = [at + 1 for at in range(len(sheet.said)) if at + 1 != quantity]
    return Sheet(web_of(sheet.web, lot), sheet.state, values_of(sheet.said, lot))


def sheet_after(sheet, deed):
    word = deed[0]
    web = sheet.web
    if word == "move":
        return Sheet(web, web.moves[deed[1]][2], deed[2])
    if word == "rule":
        return Sheet(web_with_rule(web, deed[1], deed[2]), sheet.state, sheet.said)
    if word == "ease":
        rules = web.moves[deed[1]][3]
        kept = (*rules[:deed[2]], *rules[deed[2] + 1:])
        return Sheet(with_rules_at(web, deed[1], kept), sheet.state, sheet.said)
    if word == "add":
        return Sheet(with_move(web, deed[1]), sheet.state, sheet.said)
    if word == "bar":
        return Sheet(without_moves(web, (deed[1],)), sheet.state, sheet.said)
    if word == "state":
        return sheet_with_state(sheet, deed[1])
    if word == "quantity":
        return sheet_with_quantity(sheet, deed[1], deed[2])
    return sheet_without_quantity(sheet, deed[1])


def sheet_after_all(sheet, deeds):
    for deed in deeds:
        sheet = sheet_after(sheet, deed)
    return sheet


def is_said(sheet, move, values):
    """Whether any two values are a move from the state, and values that keep its rules."""
    web = sheet.web
    return starts_at(web, sheet.state, move) and are_values(web, values) and is_let(web, move, sheet.said, values)


def is_further_rule(web, move, rule):
    """Whether any two values are a move and a rule that may come to it."""
    if not is_index(move, len(web.moves)) or len(web.moves[move][3]) == MOST_RULES:
        return False
    return is_rule(len(web.quantities), rule)


def is_further_move(web, move):
    return len(web.moves) < MOST_MOVES and is_move(len(web.quantities), len(web.states), move)


def is_further_name(names, most, name):
    """Whether any value is a name that none has, and there may be one more."""
    return len(names) < most and is_name(name) and name not in names


def has_deed_form(sheet, deed):
    """Whether a word of deeds with any values behind it, as many as it has, tells what is there and within limits."""
    web = sheet.web
    word, part, last = deed[0], deed[1], deed[-1]
    if word == "move":
        return is_said(sheet, part, last)
    if word == "rule":
        return is_further_rule(web, part, last)
    if word == "ease":
        return is_index(part, len(web.moves)) and is_index(last, len(web.moves[part][3]))
    if word == "add":
        return is_further_move(web, part)
    if word == "bar":
        return is_index(part, len(web.moves))
    if word == "state":
        return is_further_name(web.states, MOST_STATES, part)
    if word == "quantity":
        return is_further_name(web.quantities, MOST_QUANTITIES, part) and is_value(last)
    return is_index(part, len(web.quantities) + 1) and part > 0


def is_deed(sheet, value):
    if not isinstance(value, tuple) or value == () or not isinstance(value[0], str) or value[0] not in PARTS:
        return False
    if not is_tuple_of(value, PARTS[value[0]] + 1) or not has_deed_form(sheet, value):
        return False
    if value[0] not in ("move", "rule", "add"):
        # With fewer rules, fewer moves, or more that nothing speaks of, no less is held.
        return True
    behind = sheet_after(sheet, value)
    return holds_ever(behind.web, behind.state, behind.said)
