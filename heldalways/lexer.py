"""The marks of a text."""

from heldalways.kinds import is_digit, is_letter


def marks_in(text):
    """The tuple of (line, at, mark), at being the place in the line."""
    found = []
    line = 0
    begin = 0
    at = 0
    while at < len(text):
        end = mark_end(text, at)
        if text[at] != " ":
            found.append((line, at - begin, text[at:end]))
        if text[at] == "\n":
            line += 1
            begin = end
        at = end
    return tuple(found)


def mark_end(text, at):
    """Where the mark that begins at a place ends; a blank counts as a single sign."""
    if is_letter(text[at]):
        return run_end(text, at, is_letter)
    if is_digit(text[at]):
        return run_end(text, at, is_digit)
    if text[at:at + 2] in (">=", "<="):
        return at + 2
    return at + 1


def run_end(text, at, fits):
    end = at
    while end < len(text) and fits(text[end]):
        end += 1
    return end
