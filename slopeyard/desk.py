"""Desks, which have a yard and answer lines."""

from slopeyard.errors import Absent, BadText, SlopeError
from slopeyard.figures import number_text
from slopeyard.lines import read_line
from slopeyard.pages import page
from slopeyard.search import Search
from slopeyard.yard import Yard

_FORMS = {"machine": ("name", "number"), "pair": ("name", "name", "name"), "lose": ("name",),
          "room": ("name", "name", "rows", "slopes"), "door": ("name", "name", "name", "name", "rows", "sums"),
          "begin": ("name", "name", "rows"), "raze": ("name", "name"), "shut": ("name", "number"),
          "undo": (), "redo": (), "ask": ("name", "name", "rows"), "trail": ("name", "name", "rows"), "page": ()}

_DONE = "done"
_WHAT = "what"
_COME = "come"
_MOST_LOTS = 20


class Desk:
    """A desk with a yard."""

    def __init__(self):
        self.yard = Yard()

    def tell(self, line):
        """The answer to a line."""
        try:
            word, things = read_line(line, dict(_FORMS))
        except BadText:
            return _WHAT
        try:
            return self._answered(word, things)
        except (SlopeError, Absent) as refusal:
            return f"no {refusal.__class__.__name__}"

    def _answered(self, word, things):
        if word == "page":
            return page(self.yard)
        if word == "ask":
            return self._searched(things).word()
        if word == "trail":
            return _trail_text(self._searched(things))
        if word == "undo":
            self.yard.undo()
            return _DONE
        if word == "redo":
            self.yard.redo()
            return _DONE
        told = self.yard.do((word, *things))
        return _DONE if told is None else number_text(told)

    def _searched(self, things):
        """A search, over."""
        name, room, rows = things
        search = Search(self.yard.machine(name), room, rows, most=_MOST_LOTS)
        search.go(_MOST_LOTS)
        return search


def _trail_text(search):
    """The doors by which a search that is over came, or its word."""
    if search.word() != _COME:
        return search.word()
    trails = search.trails()
    _, numbers = trails[len(trails) - search.left() - 1]
    return " ".join([number_text(number) for number in numbers]) or "none"
