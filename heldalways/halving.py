"""Numbers up to which, or from which on, something is so."""


def least_from(low, high, fits):
    """The least number from low on that fits, where all behind it fit up to high, which does."""
    while low < high:
        middle = (low + high) // 2
        if fits(middle):
            high = middle
        else:
            low = middle + 1
    return low


def greatest_up_to(low, high, fits):
    """The greatest number up to high that fits, where all ahead of it fit from low on, which does."""
    while low < high:
        middle = (low + high + 1) // 2
        if fits(middle):
            low = middle
        else:
            high = middle - 1
    return low
