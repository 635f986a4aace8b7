"""Pages: a yard as a text, written and read."""

from slopeyard.deeds import done
from slopeyard.errors import Absent, BadText, SlopeError
from slopeyard.lines import read_line, slopes_text, sums_text
from slopeyard.machine import skip_to
from slopeyard.rows import rows_text
from slopeyard.stock import Stock
from slopeyard.yard import yard_of

_FORMS = {"machine": ("name", "number"), "pair": ("name", "name", "name"), "room": ("name", "rows", "slopes"),
          "door": ("number", "name", "name", "name", "rows", "sums"), "begin": ("name", "rows"),
          "next": ("number",)}

# Behind what lines one is at each time: those of whole machines, or rooms, doors, beginnings, pairs.
_WHOLE = "whole"
_PAIRS = "pairs"

# For each line behind what it may stand, and behind what one is then.
_PLACES = {"machine": (("whole",), "rooms"), "pair": (("whole", "pairs"), "pairs"), "room": (("rooms",), "rooms"),
           "door": (("rooms", "doors"), "doors"), "begin": (("rooms", "doors", "begins"), "begins"),
           "next": (("rooms", "doors", "begins"), "whole")}


def page(yard):
    """The yard as a text."""
    lines = []
    couples = []
    for name in yard.machines():
        made_of = yard.made_of(name)
        if made_of is None:
            lines += _machine_lines(name, yard.machine(name))
        else:
            one, other = made_of
            couples.append(f"pair {name} {one} {other}")
    return "".join([f"{line}\n" for line in lines + couples])


def _machine_lines(name, machine):
    lines = [f"machine {name} {machine.count}"]
    for room in machine.rooms():
        rows, slopes = machine.room(room)
        lines.append(f"room {room} : {rows_text(rows)} : {slopes_text(slopes)}")
    for number in machine.doors():
        first, behind, word, rows, sums = machine.door(number)
        lines.append(f"door {number} {first} {behind} {word} : {rows_text(rows)} : {sums_text(sums)}")
    for room, rows in machine.begins():
        lines.append(f"begin {room} : {rows_text(rows)}")
    lines.append(f"next {machine.coming()}")
    return lines


def read(text):
    """The yard of which this is the page."""
    reader = Reader()
    lines = text.split("\n")
    for row, line in enumerate(lines[:-1]):
        try:
            reader.take(line)
        except (SlopeError, Absent):
            raise BadText(row) from None
    # Behind the last line feed nothing stands; a line that lacks its line feed, or is not there, does.
    if lines[-1] != "" or not reader.is_whole():
        raise BadText(len(lines) - 1)
    return yard_of(reader.stock)


class Reader:
    """Makes the stock of a yard, line by line; what it refuses is refused behind the lines ahead of it."""

    def __init__(self):
        self.stock = Stock()
        self._stage = _WHOLE
        self._name = ""

    def is_whole(self):
        """Whether no line lacks."""
        return self._stage in (_WHOLE, _PAIRS)

    def take(self, line):
        """Does what the line says."""
        word, things = read_line(line, dict(_FORMS))
        ahead, stage = _PLACES[word]
        if self._stage not in ahead:
            raise BadText(0)
        if word in ("machine", "pair"):
            self._take_name(things[0], stage)
            done(self.stock, (word, *things))
        elif word in ("door", "next"):
            self._skip_to(things[0])
            if word == "door":
                done(self.stock, (word, self._name, *things[1:]))
        else:
            done(self.stock, (word, self._name, *things))
        self._stage = stage

    def _take_name(self, name, stage):
        """Names rise, those of machines and those of pairs."""
        if stage == _PAIRS and self._stage == _WHOLE:
            self._name = ""
        if name <= self._name:
            raise BadText(0)
        self._name = name

    def _skip_to(self, number):
        machine = self.stock.single(self._name)
        if number < machine.coming():
            raise BadText(0)
        skip_to(machine, number)
        self.stock.put(self._name, machine)
