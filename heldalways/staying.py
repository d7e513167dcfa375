"""Which wishes can be had at once."""

from heldalways.answers import answer_ranges, move_rows, new_point, some_answer
from heldalways.bounds import heaviest


def is_in_range(number, pair):
    low, high = pair
    return (low is None or low <= number) and (high is None or number <= high)


def alone_clashing(web, table, values, move, wish):
    """The quantities that have what is wished in no answer; refused as answer_ranges."""
    ranges = answer_ranges(web, table, values, move)
    return tuple([at + 1 for at, number in enumerate(wish)
                  if number is not None and not is_in_range(number, ranges[at])])


def is_clash_of(best, many, wish, one, other):
    """Whether the greatest weights between two new points ask for more than the wishes give."""
    begin = new_point(many, one)
    end = new_point(many, other)
    rise = wish[other - 1] - wish[one - 1]
    there, back = best[begin][end], best[end][begin]
    return there is not None and there > rise or back is not None and back > -rise


def clashing(web, table, values, move, wish):
    alone = alone_clashing(web, table, values, move, wish)
    best = heaviest(move_rows(web, table, move))
    many = len(wish)
    others = [at for at in range(1, many + 1) if wish[at - 1] is not None and at not in alone]
    pairs = [(one, other) for one in others for other in others
             if one < other and is_clash_of(best, many, wish, one, other)]
    return alone, tuple(pairs)


def most_wishes(web, table, values, move, wish):
    alone, pairs = clashing(web, table, values, move, wish)
    others = [at for at in range(1, len(wish) + 1) if wish[at - 1] is not None and at not in alone]
    lots = [()]
    for quantity in others:
        # Whoever can have wishes at once two by two can have all of them.
        lots.extend([(*lot, quantity) for lot in lots if all([(one, quantity) not in pairs for one in lot])])
    most = max([len(lot) for lot in lots])
    kept = [lot for lot in lots if len(lot) == most][0]
    said = [number if at + 1 in kept else None for at, number in enumerate(wish)]
    return some_answer(web, table, values, move, tuple(said))
