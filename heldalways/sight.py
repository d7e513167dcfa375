"""Webs of pairs, for controllers who know some moves ahead."""

from heldalways.errors import Refused
from heldalways.steps import end_state, script_of
from heldalways.webs import MOST_MOVES, MOST_STATES, Web, moves_from

MOST_SCRIPTS = 200
PAIR_NAMES = ("a", "b", "c", "d", "e", "f", "g", "h")


def longer_scripts(web, state, script):
    """The script with each move that may follow it, the script alone if none may."""
    following = moves_from(web, end_state(web, state, script))
    if following == ():
        return [script]
    return [(*script, move) for move in following]


def scripts_ahead(web, state, sight):
    scripts = [()]
    for _ in range(sight):
        longer = []
        for script in scripts:
            longer.extend(longer_scripts(web, state, script))
            # Each of these goes on to one script ahead, at least.
            if len(longer) > MOST_SCRIPTS:
                raise Refused("size")
        scripts = longer
    return tuple(sorted(scripts))


def pairs_of(web, sight):
    pairs = []
    for state in range(len(web.states)):
        pairs.extend([(state, script) for script in scripts_ahead(web, state, sight)])
        if len(pairs) > MOST_STATES:
            raise Refused("size")
    return tuple(pairs)


def known_scripts(web, pairs):
    """For each move of the web of pairs the number of its pair and the script that is known."""
    known = []
    for number, (state, script) in enumerate(pairs):
        known.extend([(number, longer) for longer in longer_scripts(web, state, script) if longer != ()])
    if len(known) > MOST_MOVES:
        raise Refused("size")
    return known


def sight_web(web, sight):
    pairs = pairs_of(web, sight)
    moves = []
    firsts = []
    for number, script in known_scripts(web, pairs):
        name, _, end, rules = web.moves[script[0]]
        moves.append((name, number, pairs.index((end, script[1:])), rules))
        firsts.append(script[0])
    return Web(web.quantities, PAIR_NAMES[:len(pairs)], tuple(moves)), pairs, tuple(firsts)


def plain_run(pairs, firsts, run):
    (pair, values), steps = run
    return (pairs[pair][0], values), tuple([(firsts[move], said) for move, said in steps])


def sighted_run(web, sight, run, ahead):
    pairs = pairs_of(web, sight)
    known = known_scripts(web, pairs)
    (state, values), steps = run
    script = (*script_of(run), *ahead)
    begin = pairs.index((state, script[:sight]))
    pair = begin
    found = []
    for at, (move, said) in enumerate(steps):
        found.append((known.index((pair, script[at:at + sight + 1])), said))
        pair = pairs.index((web.moves[move][2], script[at + 1:at + 1 + sight]))
    return (begin, values), tuple(found)
