"""The moves to bar, or the rules to strike, so that values are held for ever."""

from heldalways.court import holds_ever
from heldalways.errors import InvalidNumber, Refused
from heldalways.kinds import is_tuple_of, is_within
from heldalways.leaving import attack_without, is_lot_of_parts, left_without, used_parts
from heldalways.webs import check_values, reached

MOST_PARTS = 10
MOST_PRICE = 1000000


class Search:
    """Lots of moves or rules looked at for values at a state, and the attacks known."""

    def __init__(self, web, state, said, striking):
        self.web = web
        self.state = state
        self.said = said
        self.striking = striking
        self.known = []


def attack_against(search, lot):
    """Some right attack that uses nothing of a lot, and the lot that it uses; None if there is none."""
    for attack, used in search.known:
        if not any([part in lot for part in used]):
            return attack, used
    attack = attack_without(search.web, search.state, search.said, search.striking, lot)
    if attack is None:
        return None
    search.known.append((attack, used_parts(search.striking, attack)))
    return search.known[-1]


def with_part(lot, part):
    return tuple(sorted([*lot, part]))


def is_within_lot(lot, wider):
    return all([part in wider for part in lot])


def lean_lots(search):
    """All lots without which values are held for ever, and within which there is no other such lot."""
    found = []
    ahead = [()]
    # Each such lot has something of each attack: it is reached by taking what attacks use, one by one.
    while ahead:
        wider = {}
        for lot in ahead:
            if any([is_within_lot(lean, lot) for lean in found]):
                continue
            against = attack_against(search, lot)
            if against is None:
                found.append(lot)
            else:
                for part in against[1]:
                    wider[with_part(lot, part)] = True
        ahead = sorted(list(wider))
    return tuple(sorted(found))


def moves_ahead(web, state):
    """The moves that start at states reached from a state."""
    near = reached(web, state)
    return [move for move in web.moves if move[1] in near]


def bar_search(web, state, values):
    """Refused as functions that find bars are."""
    check_values(web, values)
    if len(moves_ahead(web, state)) > MOST_PARTS:
        raise Refused("size")
    return Search(web, state, values, False)


def strike_search(web, state, values):
    """Refused as functions that find strikes are."""
    check_values(web, values)
    if sum([len(move[3]) for move in moves_ahead(web, state)]) > MOST_PARTS:
        raise Refused("size")
    return Search(web, state, values, True)


def are_prices(web, value):
    return is_tuple_of(value, len(web.moves)) and all([is_within(price, 0, MOST_PRICE) for price in value])


def priced_search(web, state, values, prices):
    search = bar_search(web, state, values)
    if not are_prices(web, prices):
        raise InvalidNumber("prices")
    return search


def price_of(prices, lot):
    """The sum of the prices of a lot, 1 for each part if there are no prices."""
    return len(lot) if prices is None else sum([prices[move] for move in lot])


def is_repair(web, state, values, striking, value):
    check_values(web, values)
    if not is_lot_of_parts(web, striking, value):
        return False
    return holds_ever(left_without(web, striking, value).web, state, values)


def is_bar(web, state, values, value):
    return is_repair(web, state, values, False, value)


def cheapest_bar(web, state, values, prices):
    lots = lean_lots(priced_search(web, state, values, prices))
    return min([(price_of(prices, lot), lot) for lot in lots])[1]


def bar_price(web, state, values, prices):
    return price_of(prices, cheapest_bar(web, state, values, prices))


def lean_bars(web, state, values):
    return lean_lots(bar_search(web, state, values))


def is_strike(web, state, values, value):
    return is_repair(web, state, values, True, value)


def fewest_strikes(web, state, values):
    return min([len(lot) for lot in lean_strikes(web, state, values)])


def lean_strikes(web, state, values):
    return lean_lots(strike_search(web, state, values))
