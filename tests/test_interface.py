"""Names, arguments and places of what the interface lists: by place or by name alike, but behind a star."""

import importlib
import inspect
import unittest

FUNCTIONS = {
    "parts": ["lowest(num, den)", "plus(one, other)", "minus(one, other)", "times(one, other)", "less(one, other)"],
    "rows": ["plain_row(row)", "holds(row, state)", "row_text(row)", "read_row(text, *, count)", "rows_text(rows)",
             "read_rows(text, *, count)"],
    "papers": ["added(rows, weights)", "bars_right(rows, weights)", "paper_right(rows, row, paper)"],
    "lifted": ["begin_rows(machine, begin)", "door_rows(machine, number, rows)", "begin_goal(machine, begin, row)",
               "door_goal(machine, number, row)"],
    "runs": ["run_fault(machine, run)", "run_end(machine, run)"],
    "reach": ["behind(machine, trail=(), *, begin=0)", "run_by(machine, state, trail=(), *, begin=0)",
              "before(machine, room, rows, trail=())"],
    "looker": ["paper_fault(machine, room, rows, paper)"],
    "pairs": ["pair(one, other)", "parted(one, other, run)"],
    "pages": ["page(yard)", "read(text)"],
}
CLASSES = {
    ("lots", "Lot(count, rows=())"): [
        "rows()", "has(state)", "is_empty()", "state()", "bars()", "shows(row)", "most(weights, *, least=False)",
        "meet(other)", "within(other)", "shadow(level)", "image(sums)", "source(sums)", "__len__()", "__eq__(other)",
        "__str__()", "__repr__()"],
    ("machine", "Machine(count)"): [
        "add_room(name, rows, slopes)", "add_door(first, behind, word, rows, sums)", "add_begin(room, rows)",
        "raze(room)", "shut(number)", "rooms()", "room(name)", "doors()", "door(number)", "begins()", "coming()",
        "twin()", "__len__()", "__eq__(other)", "__repr__()"],
    ("search", "Search(machine, room, rows, *, most=20)"): [
        "go(many=1)", "word()", "lots()", "trails()", "left()", "run()", "paper()"],
    ("walker", "Walker(machine, room, state)"): ["led(time)", "place()", "moment()", "taken()"],
    ("yard", "Yard()"): [
        "do(deed)", "undo()", "redo()", "together(deeds)", "machines()", "machine(name)", "made_of(name)", "past()",
        "twin()", "__len__()", "__eq__(other)", "__repr__()"],
    ("desk", "Desk()"): ["tell(line)"],
}


def parted(listed):
    name, _, rest = listed.partition("(")
    return name, "(" + rest


def without_self(method):
    signature = inspect.signature(method)
    return str(signature.replace(parameters=list(signature.parameters.values())[1:]))


class InterfaceTest(unittest.TestCase):
    def test_functions(self):
        for file, listed in FUNCTIONS.items():
            module = importlib.import_module("slopeyard." + file)
            for name, arguments in map(parted, listed):
                function = getattr(module, name)
                self.assertEqual(str(inspect.signature(function)), arguments, name)
                self.assertEqual(function.__module__, module.__name__, name)

    def test_classes(self):
        for (file, listed), methods in CLASSES.items():
            name, arguments = parted(listed)
            made = getattr(importlib.import_module("slopeyard." + file), name)
            self.assertEqual(made.__module__, "slopeyard." + file)
            self.assertEqual(without_self(made.__init__), arguments, name)
            for method, its_arguments in map(parted, methods):
                self.assertIn(method, vars(made), (name, method))
                self.assertEqual(without_self(vars(made)[method]), its_arguments, (name, method))


if __name__ == "__main__":
    unittest.main()
