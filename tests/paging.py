"""The tests' own pages: written from what a yard tells, and looked at line by line for the first wrong one."""

import re

from tests.yarding import OwnYard, Refused

NUMBER = "(?:0|-?[1-9][0-9]{0,19})"
NUMBERS = f"{NUMBER}(?: {NUMBER})*"
ROW = f"{NUMBERS} <= {NUMBER}"
ROWS = f"(all|{ROW}(?:; {ROW})*)"
SLOPES = f"({NUMBERS}(?:; {NUMBERS})*)"
SUM = f"{NUMBERS} \\+ {NUMBER}"
SUMS = f"({SUM}(?:; {SUM})*)"
NAME = "([^ \n]+)"
FORMS = {
    "M": f"machine {NAME} ({NUMBER})",
    "P": f"pair {NAME} {NAME} {NAME}",
    "R": f"room {NAME} : {ROWS} : {SLOPES}",
    "D": f"door ({NUMBER}) {NAME} {NAME} {NAME} : {ROWS} : {SUMS}",
    "B": f"begin {NAME} : {ROWS}",
    "N": f"next ({NUMBER})",
}


def written_rows(rows):
    return "; ".join(f"{written(weights)} <= {bound}" for weights, bound in rows) or "all"


def written(numbers):
    return " ".join(map(str, numbers))


def own_page(yard):
    lines, pairs = [], []
    for name in yard.machines():
        if yard.made_of(name):
            pairs.append(" ".join(["pair", name, *yard.made_of(name)]))
            continue
        machine = yard.machine(name)
        lines.append(f"machine {name} {machine.count}")
        for room in machine.rooms():
            rows, slopes = machine.room(room)
            lines.append(f"room {room} : {written_rows(rows)} : {'; '.join(map(written, slopes))}")
        for number in machine.doors():
            first, behind, word, rows, sums = machine.door(number)
            set_so = "; ".join(f"{written(weights)} + {more}" for weights, more in sums)
            lines.append(f"door {number} {first} {behind} {word} : {written_rows(rows)} : {set_so}")
        lines += [f"begin {room} : {written_rows(rows)}" for room, rows in machine.begins()]
        lines.append(f"next {machine.coming()}")
    return "".join(line + "\n" for line in lines + pairs)


def read_numbers(text):
    return tuple(map(int, text.split(" ")))


def read_rows(text):
    if text == "all":
        return []
    return [(read_numbers(row.split(" <= ")[0]), int(row.split(" <= ")[1])) for row in text.split("; ")]


def read_slopes(text):
    return [read_numbers(slope) for slope in text.split("; ")]


def read_sums(text):
    return [(read_numbers(one.split(" + ")[0]), int(one.split(" + ")[1])) for one in text.split("; ")]


class OwnLook:
    """Takes line by line, and refuses the first wrong one; numbers of doors are looked at by themselves."""

    def __init__(self):
        self.yard = OwnYard()
        self.kinds = ""
        self.name = None
        self.last = 0

    def take(self, line):
        found = [(kind, re.fullmatch(form, line)) for kind, form in FORMS.items()]
        found = [(kind, match.groups()) for kind, match in found if match]
        if not found:
            raise Refused("written")
        (kind, things), = found
        self.kinds += kind
        if not re.fullmatch("(MR*D*B*N)*(MR*D*B*|P*)", self.kinds):
            raise Refused("place")
        getattr(self, "take_" + kind)(*things)

    def take_M(self, name, count):
        self.rise(name, self.yard.singles)
        self.yard.do(("machine", name, int(count)))
        self.name, self.last = name, 0

    def take_P(self, name, one, other):
        self.rise(name, self.yard.pairs)
        self.yard.do(("pair", name, one, other))

    def rise(self, name, ahead):
        if any(name <= other for other in ahead):
            raise Refused("name")

    def take_R(self, room, rows, slopes):
        self.yard.do(("room", self.name, room, read_rows(rows), read_slopes(slopes)))

    def take_D(self, number, first, behind, word, rows, sums):
        if int(number) <= self.last:
            raise Refused("number")
        self.yard.do(("door", self.name, first, behind, word, read_rows(rows), read_sums(sums)))
        self.last = int(number)

    def take_B(self, room, rows):
        self.yard.do(("begin", self.name, room, read_rows(rows)))

    def take_N(self, number):
        if int(number) <= self.last:
            raise Refused("number")


def own_fault(text):
    """The number of the first wrong line, or None."""
    look = OwnLook()
    *lines, rest = text.split("\n")
    for row, line in enumerate(lines):
        try:
            look.take(line)
        except Refused:
            return row
    if rest or not re.fullmatch("(MR*D*B*N)*P*", look.kinds):
        return len(lines)
    return None
