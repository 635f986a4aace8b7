"""Machines: rooms in which levels run along slopes, doors from room to room, and beginnings."""

from slopeyard.bounds import check_name, check_word, fit_rows, fit_slopes, fit_sums
from slopeyard.errors import BadCount, Full, InUse, NoDoor, NoRoom, Taken

MOST_LEVELS = 4
MOST_ROOMS = 12
MOST_DOORS = 24
MOST_BEGINS = 8


class Machine:
    """A machine of so many levels."""

    def __init__(self, count):
        if not 1 <= count <= MOST_LEVELS:
            raise BadCount("a machine has 1 to 4 levels")
        self.count = count
        self._rooms = {}
        self._doors = {}
        self._begins = []
        self._coming = 1

    def add_room(self, name, rows, slopes):
        """Makes a room."""
        check_name(name)
        if name in self._rooms:
            raise Taken("there is a room of this name")
        room = (fit_rows(rows, self.count), fit_slopes(slopes, self.count))
        if len(self._rooms) == MOST_ROOMS:
            raise Full("a machine has at most 12 rooms")
        self._rooms[name] = room

    def add_door(self, first, behind, word, rows, sums):
        """Makes a door, and tells its number."""
        self._check_room(first)
        self._check_room(behind)
        check_word(word)
        door = (first, behind, word, fit_rows(rows, self.count), fit_sums(sums, self.count))
        if len(self._doors) == MOST_DOORS:
            raise Full("a machine has at most 24 doors")
        number = self._coming
        self._doors[number] = door
        self._coming = number + 1
        return number

    def add_begin(self, room, rows):
        """Makes a beginning, and tells its number."""
        self._check_room(room)
        begin = (room, fit_rows(rows, self.count))
        if len(self._begins) == MOST_BEGINS:
            raise Full("a machine has at most 8 beginnings")
        self._begins.append(begin)
        return len(self._begins) - 1

    def raze(self, room):
        """Takes away a room that no door and no beginning has."""
        self._check_room(room)
        if any([room in (first, behind) for first, behind, _, _, _ in self._doors.values()]):
            raise InUse("a door has the room")
        if any([room == its_room for its_room, _ in self._begins]):
            raise InUse("a beginning has the room")
        del self._rooms[room]

    def shut(self, number):
        """Takes away a door; its number doesn't come again."""
        self._check_door(number)
        del self._doors[number]

    def rooms(self):
        """The names of the rooms, in the order in which they came."""
        return list(self._rooms)

    def room(self, name):
        """The rows of a room, and its slopes."""
        self._check_room(name)
        rows, slopes = self._rooms[name]
        return list(rows), list(slopes)

    def doors(self):
        """The numbers of the doors, rising."""
        return list(self._doors)

    def door(self, number):
        """A door's first room, the one behind it, its word, its rows and its sums."""
        self._check_door(number)
        first, behind, word, rows, sums = self._doors[number]
        return first, behind, word, list(rows), list(sums)

    def begins(self):
        """The room and the rows of each beginning, in their order."""
        return [(room, list(rows)) for room, rows in self._begins]

    def coming(self):
        """The number of the next door."""
        return self._coming

    def twin(self):
        """A machine that stands alike and goes its own way."""
        other = Machine(self.count)
        other._rooms = dict(self._rooms)
        other._doors = dict(self._doors)
        other._begins = list(self._begins)
        other._coming = self._coming
        return other

    def __eq__(self, other):
        return isinstance(other, Machine) and self._all_told() == other._all_told()

    def __len__(self):
        return len(self._rooms)

    def __repr__(self):
        return f"Machine({self.count} levels, {len(self._rooms)} rooms, {len(self._doors)} doors)"

    def _all_told(self):
        # The rooms and doors as lists, as dicts would be equal in whatever order they came.
        return self.count, list(self._rooms.items()), list(self._doors.items()), self._begins, self._coming

    def _check_room(self, name):
        if name not in self._rooms:
            raise NoRoom("there is no such room")

    def _check_door(self, number):
        if number not in self._doors:
            raise NoDoor("there is no such door")


def assembled(count, rooms, doors, begins):
    """A machine of these, told as it keeps them: rooms by their names, doors in order, whatever their rows."""
    machine = Machine(count)
    machine._rooms = dict(rooms)
    machine._doors = dict(enumerate(doors, start=1))
    machine._begins = list(begins)
    machine._coming = len(doors) + 1
    return machine


def skip_to(machine, number):
    """Has the machine's next door come with this number, as if those ahead of it had come and been shut."""
    machine._coming = number
