"""Papers that show that no bar is cheaper, and that no strike is smaller."""

from heldalways.attacks import is_attack
from heldalways.kinds import is_integer, is_tuple_of
from heldalways.leaving import is_lot_of_parts, used_parts
from heldalways.repairs import Search, attack_against, lean_lots, price_of, priced_search, strike_search, with_part


class PricePaper:
    """A price, and lots with attacks that use nothing of them."""

    def __init__(self, price, rows):
        self.price = price
        self.rows = rows


def paper_for(search, prices):
    """The paper with the least price of all lots that are enough."""
    price = min([price_of(prices, lot) for lot in lean_lots(search)])
    rows = {}
    ahead = [()] if price > 0 else []
    while ahead:
        wider = {}
        for lot in ahead:
            attack, used = attack_against(search, lot)
            rows[lot] = attack
            for part in used:
                longer = with_part(lot, part)
                if price_of(prices, longer) < price:
                    wider[longer] = True
        ahead = list(wider)
    return PricePaper(price, tuple([(lot, rows[lot]) for lot in sorted(list(rows))]))


def is_row(search, value):
    """Whether any value is a lot and a right attack that uses nothing of it."""
    if not is_tuple_of(value, 2):
        return False
    lot, attack = value
    if not is_lot_of_parts(search.web, search.striking, lot):
        return False
    if not is_attack(search.web, search.state, search.said, attack):
        return False
    return not any([part in lot for part in used_parts(search.striking, attack)])


def is_paper_for(search, prices, value):
    if not isinstance(value, PricePaper) or not is_integer(value.price) or value.price < 0:
        return False
    if not isinstance(value.rows, tuple) or not all([is_row(search, row) for row in value.rows]):
        return False
    lots = {row[0]: True for row in value.rows}
    if list(lots) != sorted(list(lots)) or len(lots) != len(value.rows):
        return False
    if value.price > 0 and () not in lots:
        return False
    for lot, attack in value.rows:
        for part in used_parts(search.striking, attack):
            longer = with_part(lot, part)
            if longer not in lots and price_of(prices, longer) < value.price:
                return False
    return True


def bar_paper(web, state, values, prices):
    return paper_for(priced_search(web, state, values, prices), prices)


def is_bar_paper(web, state, values, prices, value):
    return is_paper_for(Search(web, state, values, False), prices, value)


def strike_paper(web, state, values):
    return paper_for(strike_search(web, state, values), None)


def is_strike_paper(web, state, values, value):
    return is_paper_for(Search(web, state, values, True), None, value)
