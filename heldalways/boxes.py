"""What is held by values of a box alone."""

from heldalways.errors import Refused
from heldalways.steps import is_let
from heldalways.webs import moves_from, with_rules_behind

MOST_ROWS = 200


def rows_in(box):
    many = 1
    for low, high in box:
        many = many * (high - low + 1)
    if many > MOST_ROWS:
        raise Refused("size")
    rows = [()]
    for low, high in box:
        rows = [(*row, number) for row in rows for number in range(low, high + 1)]
    return tuple(rows)


def box_rules(box):
    rules = []
    for at, (low, high) in enumerate(box):
        rules.extend([("now", 0, at + 1, low), ("now", at + 1, 0, -high)])
    return rules


def boxed_web(web, box):
    return with_rules_behind(web, box_rules(box))


def marks_from(box, rows):
    """For each quantity, and each number from its low end to one above its high end, a mark.

    A mark is an integer whose bits tell of which rows something is so: here,
    that the value is at least the number.
    """
    marks = []
    for at, (low, high) in enumerate(box):
        found = [0] * (high - low + 2)
        for place, row in enumerate(rows):
            found[row[at] - low] += 1 << place
        for number in range(high - low, -1, -1):
            found[number] += found[number + 1]
        marks.append(found)
    return marks


def mark_from(box, marks, quantity, number):
    """The mark of the rows in which the value of a quantity is at least any number."""
    low, high = box[quantity - 1]
    return marks[quantity - 1][min(max(number, low), high + 1) - low]


def keeps_now(rules, row):
    new = (0, *row)
    return all([new[other] - new[one] >= weight for kind, one, other, weight in rules if kind == "now"])


def mark_let(box, marks, rules, fitting, row):
    """The mark of those of the fitting rows that rules let follow a row."""
    old = (0, *row)
    mark = fitting
    for kind, one, other, weight in rules:
        if kind == "rise" and other > 0:
            mark = mark & mark_from(box, marks, other, old[one] + weight)
        elif kind == "fall" and other > 0:
            mark = mark & ~mark_from(box, marks, other, old[one] - weight + 1)
        elif kind == "rise" and -old[one] < weight or kind == "fall" and old[one] < weight:
            return 0
    return mark


def answer_marks(web, box, rows):
    """For each move and each row the mark of the rows let then."""
    marks = marks_from(box, rows)
    found = []
    for move in web.moves:
        fitting = sum([1 << place for place, row in enumerate(rows) if keeps_now(move[3], row)])
        found.append([mark_let(box, marks, move[3], fitting, row) for row in rows])
    return found


def next_held(web, answers, held):
    """The marks of the rows held at the states for one more move."""
    behind = []
    for state, mark in enumerate(held):
        kept = 0
        moves = moves_from(web, state)
        for place in range(mark.bit_length()):
            if (mark >> place) & 1:
                if all([answers[move][place] & held[web.moves[move][2]] for move in moves]):
                    kept += 1 << place
        behind.append(kept)
    return behind


def held_marks(web, box, most):
    """The rows, the marks of those held for so many moves, or for ever, and the moves looked at.

    For ever if most is None; no more moves are looked at once nothing changes.
    """
    rows = rows_in(box)
    answers = answer_marks(web, box, rows)
    held = [(1 << len(rows)) - 1] * len(web.states)
    done = 0
    while most is None or done < most:
        behind = next_held(web, answers, held)
        if behind == held:
            break
        held = behind
        done += 1
    return rows, held, done


def rows_held(web, box, most):
    rows, held, _ = held_marks(web, box, most)
    return tuple([tuple([row for place, row in enumerate(rows) if (mark >> place) & 1]) for mark in held])


def held_in(web, box, most):
    return rows_held(web, box, most)


def ever_in(web, box):
    return rows_held(web, box, None)


def rounds_in(web, box):
    return held_marks(web, box, None)[2]


def ever_answer(web, box, move, old):
    for row in ever_in(web, box)[web.moves[move][2]]:
        if is_let(web, move, old, row):
            return row
    return None
