"""Rows with points left out, and rows for both or either of two."""

from heldalways.bounds import heaviest
from heldalways.errors import Refused


def greater(one, other):
    """The greater one of two entries."""
    if one is None or other is None:
        return other if one is None else one
    return max(one, other)


def lesser(one, other):
    """The lesser one of two entries."""
    if one is None or other is None:
        return None
    return min(one, other)


def entry_sum(one, other):
    if one is None or other is None:
        return None
    return one + other


def without_point(rows, point):
    around = rows[point][point]
    if around is not None and around > 0:
        raise Refused("ring")
    others = [at for at in range(len(rows)) if at != point]
    found = []
    for one in others:
        row = [greater(rows[one][at], entry_sum(rows[one][point], rows[point][at])) for at in others]
        found.append(tuple(row))
    return tuple(found)


def seen_rows(rows, points):
    best = heaviest(rows)
    if best is None:
        raise Refused("ring")
    return tuple([tuple([best[one][other] for other in points]) for one in points])


def both_rows(one, other):
    return tuple([
        tuple([greater(entry, same) for entry, same in zip(row, beside)])
        for row, beside in zip(one, other)])


def either_rows(one, other):
    first = heaviest(one)
    second = heaviest(other)
    if first is None or second is None:
        raise Refused("ring")
    return tuple([
        tuple([lesser(entry, same) for entry, same in zip(row, beside)])
        for row, beside in zip(first, second)])
