"""Settings with fixed numbers, and why there is none."""

from heldalways.bounds import heaviest, heaviest_walk, is_point_ring, is_point_walk, is_setting, ring_in, walk_weight
from heldalways.errors import Refused


class Solved:
    """A setting that keeps rows and fits the fixed numbers."""

    def __init__(self, setting):
        self.setting = setting


class Circled:
    """A point ring: no setting keeps the rows."""

    def __init__(self, walk):
        self.walk = walk


class Clash:
    """A point walk that asks for more than the fixed numbers of its ends give."""

    def __init__(self, walk):
        self.walk = walk


def fits_fixed(fixed, setting):
    return all([told is None or told == number for told, number in zip(fixed, setting)])


def is_clash(rows, fixed, value):
    if not is_point_walk(rows, value):
        return False
    first = fixed[value[0]]
    last = fixed[value[-1]]
    return first is not None and last is not None and walk_weight(rows, value) > last - first


def is_solution(rows, fixed, value):
    if isinstance(value, Solved):
        return is_setting(rows, value.setting) and fits_fixed(fixed, value.setting)
    if isinstance(value, Circled):
        return is_point_ring(rows, value.walk)
    return isinstance(value, Clash) and is_clash(rows, fixed, value.walk)


def clashing_points(best, fixed):
    """Two points whose fixed numbers no setting has, None without any."""
    for one, first in enumerate(fixed):
        for other, last in enumerate(fixed):
            if first is not None and last is not None and best[one][other] is not None:
                if best[one][other] > last - first:
                    return (one, other)
    return None


def least_number(best, fixed, point):
    lows = [fixed[at] + best[at][point] for at in range(len(fixed))
            if fixed[at] is not None and best[at][point] is not None]
    return max(lows) if lows else None


def greatest_number(best, fixed, point):
    highs = [fixed[at] - best[point][at] for at in range(len(fixed))
             if fixed[at] is not None and best[point][at] is not None]
    return min(highs) if highs else None


def some_number(best, fixed, point):
    low = least_number(best, fixed, point)
    if low is not None:
        return low
    high = greatest_number(best, fixed, point)
    return 0 if high is None else high


def some_setting(best, fixed):
    """A setting with the greatest weights that fits fixed numbers without a clash."""
    numbers = list(fixed)
    for point in range(len(numbers)):
        if numbers[point] is None:
            numbers[point] = some_number(best, numbers, point)
    return tuple(numbers)


def solution(rows, fixed):
    best = heaviest(rows)
    if best is None:
        return Circled(ring_in(rows))
    points = clashing_points(best, fixed)
    if points is not None:
        return Clash(heaviest_walk(rows, points[0], points[1]))
    return Solved(some_setting(best, fixed))


def number_ranges(rows, fixed):
    best = heaviest(rows)
    if best is None:
        raise Refused("ring")
    if clashing_points(best, fixed) is not None:
        raise Refused("fixed")
    return tuple([
        (least_number(best, fixed, point), greatest_number(best, fixed, point))
        for point in range(len(rows))])
