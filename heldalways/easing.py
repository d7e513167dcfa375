"""By how much all rules must be loosened so that values are held for ever."""

from heldalways.attacks import is_attack
from heldalways.court import is_controller, holds_ever, verdict_at
from heldalways.halving import least_from
from heldalways.kinds import is_tuple_of, is_within
from heldalways.quick import attack_on
from heldalways.tables import keeps_table
from heldalways.webs import MOST_WEIGHT, check_values, with_rules

MOST_EASING = 2000000


def eased_web(web, by):
    return with_rules(web, [
        tuple([(*rule[:3], max(rule[3] - by, -MOST_WEIGHT)) for rule in move[3]]) for move in web.moves])


def least_easing(web, state, values):
    check_values(web, values)
    if not holds_ever(eased_web(web, MOST_EASING), state, values):
        return None
    return least_from(0, MOST_EASING, lambda by: holds_ever(eased_web(web, by), state, values))


def easing_papers(web, state, values):
    by = least_easing(web, state, values)
    if by is None:
        return None
    attack = None if by == 0 else attack_on(eased_web(web, by - 1), state, values)
    return by, verdict_at(eased_web(web, by), state), attack


def is_least_easing(web, state, values, value):
    if not is_tuple_of(value, 3) or not is_within(value[0], 0, MOST_EASING):
        return False
    by, controller, attack = value
    if not is_controller(eased_web(web, by), controller) or not keeps_table(controller.table, state, values):
        return False
    if by == 0:
        return attack is None
    return is_attack(eased_web(web, by - 1), state, values, attack)
