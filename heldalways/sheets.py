"""Sheets: a plant, where it is, and what was said there last."""

from heldalways.court import holds_ever
from heldalways.kinds import is_index
from heldalways.webs import Web, are_values


class Sheet:
    """A web, a state and values."""

    def __init__(self, web, state, said):
        self.web = web
        self.state = state
        self.said = said

    def __eq__(self, other):
        return (isinstance(other, Sheet) and self.web == other.web
                and self.state == other.state and self.said == other.said)


def is_sheet(value):
    if not isinstance(value, Sheet) or not isinstance(value.web, Web):
        return False
    if not is_index(value.state, len(value.web.states)) or not are_values(value.web, value.said):
        return False
    return holds_ever(value.web, value.state, value.said)
