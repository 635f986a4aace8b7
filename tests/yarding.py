"""The tests' own yard: it keeps all as it was ahead of each deed, and puts pairs together by the tests' own hand.

Deeds in a single machine it does in a Machine, whose own deeds are tested by themselves.
"""

import re

from slopeyard.errors import Absent, SlopeError
from slopeyard.machine import Machine
from tests.machines import Plan, as_told, told
from tests.siding import own_pair

NAMES = list("abcdefghij")
BAD_NAMES = ["", "A", "abcdefghi", "a-b", "a b", "a1", "-", "_"]
ROOMS = ["r", "s", "r-s", "s-r", "t"]


class Refused(Exception):
    """A deed that the own yard refuses, by the name of the refusal."""


def plan_of(machine):
    """What a machine tells, as a plan."""
    plan = Plan(machine.count)
    plan.rooms = {name: machine.room(name) for name in machine.rooms()}
    plan.doors = {number: machine.door(number) for number in machine.doors()}
    plan.begins = machine.begins()
    return plan


def tuples(thing):
    return tuple(map(tuples, thing)) if isinstance(thing, (list, tuple)) else thing


class OwnYard:
    def __init__(self):
        self.singles = {}
        self.pairs = {}
        self.done = []
        self.to_do = []

    def names(self):
        return sorted(list(self.singles) + list(self.pairs))

    def stand(self):
        return {name: machine.twin() for name, machine in self.singles.items()}, dict(self.pairs)

    def told(self):
        """All that a yard tells."""
        machines = []
        for name in self.names():
            if name in self.pairs:
                one, other = (plan_of(self.singles[part]) for part in self.pairs[name])
                machines.append((name, self.pairs[name], as_told(own_pair(one, other))))
            else:
                machines.append((name, None, told(self.singles[name])))
        many = len(machines)
        return self.names(), machines, many, f"Yard({many} machines)", [tuples(deed) for deed, _ in self.done]

    def do(self, deed):
        ahead = self.stand()
        try:
            answer = self.go(deed)
        except Refused:
            self.singles, self.pairs = ahead
            raise
        self.done.append((deed, ahead))
        self.to_do = []
        return answer

    def undo(self):
        if not self.done:
            raise Refused("Nothing")
        deed, ahead = self.done.pop()
        self.to_do.append((deed, self.stand()))
        self.singles, self.pairs = ahead
        return tuples(deed)

    def redo(self):
        if not self.to_do:
            raise Refused("Nothing")
        deed, behind = self.to_do.pop()
        self.done.append((deed, self.stand()))
        self.singles, self.pairs = behind
        return tuples(deed)

    def go(self, deed):
        word, name = deed[0], deed[1]
        if word == "together":
            return [self.go(one) for one in deed[1]]
        if word in ("machine", "pair"):
            if not re.fullmatch("[a-z]{1,8}", name):
                raise Refused("BadName")
            if name in self.names():
                raise Refused("Taken")
            return self.make(*deed[1:]) if word == "machine" else self.couple(*deed[1:])
        if name not in self.names():
            raise Refused("NoMachine")
        if word == "lose":
            if any(name in parts for parts in self.pairs.values()):
                raise Refused("InUse")
            (self.pairs if name in self.pairs else self.singles).pop(name)
            return None
        if name in self.pairs:
            raise Refused("Derived")
        return self.change(deed)

    def make(self, name, count):
        if count not in (1, 2, 3):
            raise Refused("BadCount")
        self.check_full()
        self.singles[name] = Machine(count)

    def couple(self, name, one, other):
        if not {one, other} <= set(self.names()):
            raise Refused("NoMachine")
        if {one, other} & set(self.pairs):
            raise Refused("Derived")
        self.check_pair(one, other)
        self.check_full()
        self.pairs[name] = (one, other)

    def check_full(self):
        if len(self.names()) == 8:
            raise Refused("Full")

    def check_pair(self, one, other):
        made = own_pair(plan_of(self.singles[one]), plan_of(self.singles[other]))
        if isinstance(made, str):
            raise Refused(made)

    def change(self, deed):
        word, name, *rest = deed
        machine = self.singles[name]
        actions = {"room": machine.add_room, "begin": machine.add_begin, "door": machine.add_door,
                   "raze": machine.raze, "shut": machine.shut}
        try:
            answer = actions[word](*rest)
        except (SlopeError, Absent) as refusal:
            raise Refused(type(refusal).__name__)
        for couple in sorted(self.pairs):
            if name in self.pairs[couple]:
                self.check_pair(*self.pairs[couple])
        return answer if word == "door" else None


def told_by(yard):
    """All that a yard of the program tells."""
    machines = [(name, yard.made_of(name), told(yard.machine(name))) for name in yard.machines()]
    return yard.machines(), machines, len(yard), repr(yard), yard.past()


def mostly(source, likely, rare, often=0.93):
    """One of the likely things mostly, where there are any, else one of the rare ones."""
    return source.choice(likely) if likely and source.random() < often else source.choice(rare)


def some_rows(source, count, many):
    count += source.random() < 0.05
    return [(tuple(source.randint(-3, 3) for _ in range(count)), source.randint(-9, 9)) for _ in range(many)]


def some_sums(source, count):
    count += source.random() < 0.05
    return [(tuple(source.randint(-2, 2) for _ in range(count)), source.randint(-9, 9)) for _ in range(count)]


def some_deed(source, own):
    """A deed that is mostly done."""
    word = source.choice(["machine", "pair", "lose", "raze", "shut"] + ["room", "begin"] * 5 + ["door"] * 10)
    if len(own.singles) < 2 or word == "machine":
        return "machine", mostly(source, NAMES, BAD_NAMES), mostly(source, [1, 1, 2, 2, 3], [0, 4])
    singles = list(own.singles)
    if word == "pair":
        return word, mostly(source, NAMES, BAD_NAMES), mostly(source, singles, NAMES), mostly(source, singles, NAMES)
    if word == "lose":
        return word, mostly(source, own.names(), NAMES)
    name = mostly(source, singles, own.names() + NAMES)
    machine = own.singles.get(name, Machine(1))
    if not machine.rooms() and source.random() < 0.9:
        word = "room"
    return word, name, *some_things(source, word, machine)


def some_things(source, word, machine):
    """What stands in a deed behind the machine's name."""
    count, rooms = machine.count, machine.rooms()
    rows = some_rows(source, count, source.choice([0, 1, 2]))
    if word == "room":
        slopes = [tuple(source.randint(-3, 3) for _ in range(count)) for _ in range(source.choice([1, 1, 1, 1, 2, 3]))]
        return mostly(source, [room for room in ROOMS if room not in rooms], ROOMS + ["R"]), rows, slopes
    if word == "begin":
        return mostly(source, rooms, ROOMS), rows
    if word == "door":
        ends = mostly(source, rooms, ROOMS), mostly(source, rooms, ROOMS)
        return (*ends, mostly(source, "xyzw", ["X", ""]), rows, some_sums(source, count))
    if word == "raze":
        return (mostly(source, rooms, ROOMS),)
    return (mostly(source, machine.doors(), range(9)),)


def filled(source, many):
    """An own yard in which so many deeds were tried."""
    own = OwnYard()
    for _ in range(many):
        try:
            own.do(some_deed(source, own))
        except Refused:
            pass
    return own
