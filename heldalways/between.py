"""Answers to amounts between the corners of a move."""

from heldalways.amounts import corners_of


def between_answer(amount_web, move, amounts, answers):
    ranges = amount_web.moves[move][3]
    parts = [corner_part(ranges, corner, amounts) for corner in corners_of(amount_web, move)]
    whole = sum(parts)
    # Rounding all down keeps each difference that is at least an integer.
    return tuple([
        sum([part * answer[at] for part, answer in zip(parts, answers)]) // whole
        for at in range(len(amount_web.quantities))])


def corner_part(ranges, corner, amounts):
    """The part of a corner in a mixture of all corners that gives the amounts."""
    part = 1
    for (low, high), end, amount in zip(ranges, corner, amounts):
        if low < high:
            part = part * (high - amount if end == low else amount - low)
    return part
