"""Deeds found: near answers, and the heaviest rule that can be promised."""

from heldalways.answers import move_rows
from heldalways.court import holds_ever, verdict_at
from heldalways.deeds import web_with_rule
from heldalways.errors import Refused
from heldalways.halving import greatest_up_to, least_from
from heldalways.hidden import both_rows
from heldalways.kinds import is_index
from heldalways.solving import Solved, solution
from heldalways.steps import starts_at
from heldalways.webs import MOST_RULES, MOST_VALUE, MOST_WEIGHT, are_values, has_points
from heldalways.wishes import least_distance, rows_near_wish


def least_table(sheet):
    """The least right table that tells the state of a sheet."""
    return verdict_at(sheet.web, sheet.state).table


def near_values(sheet, table, move, wish):
    """Some answer with the least distance from a wish, none of whose values is too great; None without any."""
    said = sheet.said
    distance = least_distance(sheet.web, table, said, move, wish)
    near = both_rows(move_rows(sheet.web, table, move), rows_near_wish(said, wish, distance))
    bound = both_rows(near, rows_near_wish(said, (0,) * len(said), MOST_VALUE))
    found = solution(bound, (0, *said, *[None] * len(said)))
    return found.setting[len(said) + 1:] if isinstance(found, Solved) else None


def near_deed(sheet, move, wish):
    if not starts_at(sheet.web, sheet.state, move):
        raise Refused("move")
    if not are_values(sheet.web, wish):
        raise Refused("wish")
    values = near_values(sheet, least_table(sheet), move, wish)
    if values is None:
        raise Refused("values")
    return ("move", move, values)


def move_deed(sheet, move):
    return near_deed(sheet, move, sheet.said)


def can_promise(sheet, move, begun, weight):
    """Whether a further rule, of which all but the weight is told, leaves the sheet open."""
    return holds_ever(web_with_rule(sheet.web, move, (*begun, weight)), sheet.state, sheet.said)


def heaviest_rule(sheet, move, kind, one, other):
    web = sheet.web
    if not is_index(move, len(web.moves)):
        raise Refused("move")
    if not has_points(kind, one, other, len(web.quantities)):
        raise Refused("rule")
    if len(web.moves[move][3]) == MOST_RULES:
        raise Refused("size")
    begun = (kind, one, other)
    if can_promise(sheet, move, begun, 0):
        return greatest_up_to(0, MOST_WEIGHT, lambda weight: can_promise(sheet, move, begun, weight))
    if not can_promise(sheet, move, begun, -MOST_WEIGHT):
        return None
    return -least_from(1, MOST_WEIGHT, lambda size: can_promise(sheet, move, begun, -size))
