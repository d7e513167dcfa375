"""The texts of webs, values, runs and scripts."""

from heldalways.webs import plain_rule


def ground_rule(web, rule):
    """The sentence of a plain rule about the ground."""
    kind, one, other, weight = rule
    if one == 0:
        left = f"{web.quantities[other - 1]}'" if other > 0 else "0"
        return f"{left} >= {weight}"
    name = web.quantities[one - 1]
    if kind == "fall":
        return f"{name} >= {weight}"
    return f"{name} <= {-weight}" if kind == "rise" else f"{name}' <= {-weight}"


def added(number):
    """What is added or taken away behind a quantity."""
    if number == 0:
        return ""
    return f" + {number}" if number > 0 else f" - {-number}"


def sentence(web, rule):
    kind, one, other, weight = plain_rule(rule)
    if one == 0 or other == 0:
        return ground_rule(web, (kind, one, other, weight))
    left = f"{web.quantities[other - 1]}'"
    right = web.quantities[one - 1]
    if kind == "rise":
        return f"{left} >= {right}{added(weight)}"
    if kind == "fall":
        return f"{left} <= {right}{added(-weight)}"
    return f"{left} >= {right}'{added(weight)}"


def show_move(web, move):
    name, start, end, rules = move
    head = f"{name} {web.states[start]} {web.states[end]}"
    if rules == ():
        return head
    return f"{head}: " + ", ".join([sentence(web, rule) for rule in rules])


def show_web(web):
    head = " ".join([*web.quantities, "/", *web.states])
    return "\n".join([head, *[show_move(web, move) for move in web.moves]])


def show_values(web, values):
    return ", ".join([f"{name} {number}" for name, number in zip(web.quantities, values)])


def show_line(web, word, values):
    """A line of a run: a word, and values if the web has quantities."""
    return f"{word}: {show_values(web, values)}" if web.quantities else word


def show_run(web, run):
    (state, values), steps = run
    first = show_line(web, web.states[state], values)
    return "\n".join([first, *[show_line(web, str(move), said) for move, said in steps]])


def show_script(script):
    return " ".join([str(move) for move in script])
