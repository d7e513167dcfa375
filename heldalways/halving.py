"""Numbers up to which, or from which on, something is so.

Both look close to their beginning first, in steps that double: what is asked
for is a small number more often than not.
"""


def least_from(low, high, fits):
    """The least number from low on that fits, where all behind it fit up to high, which does."""
    step = 0
    while low < high:
        middle = min(low + step, (low + high) // 2)
        if fits(middle):
            high = middle
        else:
            low = middle + 1
            step = 2 * step + 1
    return low


def greatest_up_to(low, high, fits):
    """The greatest number up to high that fits, where all ahead of it fit from low on, which does."""
    if fits(high):
        return high
    step = 1
    while high - low > 1:
        middle = min(low + step, (low + high) // 2)
        if fits(middle):
            low = middle
            step = 2 * step
        else:
            high = middle
    return low
