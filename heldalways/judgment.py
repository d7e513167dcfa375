"""What is held for ever at all states, and what shows where nothing is."""

from heldalways.court import best_table, is_paper, paper_state, verdict_at
from heldalways.kinds import is_tuple_of
from heldalways.steps import end_state, is_script
from heldalways.tables import is_table
from heldalways.webs import moves_from


class Judgment:
    """A table, and for each state that it does not tell a ring or pump and a script to its place."""

    def __init__(self, table, papers, ways):
        self.table = table
        self.papers = papers
        self.ways = ways


def way_between(web, state, end):
    ways = {state: ()}
    found = [state]
    done = 0
    while done < len(found) and end not in ways:
        begin = found[done]
        for move in moves_from(web, begin):
            place = web.moves[move][2]
            if place not in ways:
                ways[place] = (*ways[begin], move)
                found.append(place)
        done += 1
    return ways.get(end)


def is_shown(web, state, paper, way):
    """Whether any two values are a right ring or pump and a script from a state to its place."""
    if not is_paper(web, paper) or not is_script(web, state, way):
        return False
    return end_state(web, state, way) == paper_state(web, paper)


def is_judgment(web, value):
    if not isinstance(value, Judgment) or not is_table(web, value.table):
        return False
    many = len(web.states)
    if not is_tuple_of(value.papers, many) or not is_tuple_of(value.ways, many):
        return False
    for state, rows in enumerate(value.table):
        paper = value.papers[state]
        way = value.ways[state]
        if rows is not None and (paper is not None or way is not None):
            return False
        if rows is None and not is_shown(web, state, paper, way):
            return False
    return True


def judgment(web):
    table = best_table(web)
    papers = []
    ways = []
    known = []
    for state, rows in enumerate(table):
        if rows is not None:
            papers.append(None)
            ways.append(None)
            continue
        near = [paper for paper in known if way_between(web, state, paper_state(web, paper)) is not None]
        if near == []:
            known.append(verdict_at(web, state))
            near = known[-1:]
        papers.append(near[0])
        ways.append(way_between(web, state, paper_state(web, near[0])))
    return Judgment(table, tuple(papers), tuple(ways))
