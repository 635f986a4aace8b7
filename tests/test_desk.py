import random
import re
import unittest

from slopeyard.desk import Desk
from slopeyard.errors import Absent, SlopeError
from slopeyard.search import Search
from slopeyard.yard import Yard
from tests.paging import (NUMBER, ROWS, SLOPES, SUMS, own_page, read_rows, read_slopes, read_sums, written,
                          written_rows)
from tests.yarding import OwnYard, Refused, some_deed, told_by

BIG = 10 ** 20 - 1

# A vessel that is filled up to ten and drained again, and one that drips.
LINES = [
    ("machine vessel 1", "done"),
    ("room vessel fill : 1 <= 10 : 3", "done"),
    ("room vessel drain : -1 <= 0 : -1; -2", "done"),
    ("door vessel fill drain turn : -1 <= -8 : 1 + 0", "1"),
    ("door vessel drain fill back : 1 <= 4 : 1 + 0", "2"),
    ("begin vessel fill : 1 <= 1; -1 <= 0", "done"),
    ("machine drip 1", "done"),
    ("room drip on : all : 0", "done"),
    ("door drip on on drop : all : 1 + 1", "1"),
    ("begin drip on : 1 <= 0; -1 <= 0", "done"),
    ("pair both vessel drip", "done"),
]


def filled_desk():
    desk = Desk()
    for line, _ in LINES:
        desk.tell(line)
    return desk


class DeskCase(unittest.TestCase):
    def answered(self, desk, *pairs):
        for line, answer in pairs:
            told = desk.tell(line)
            self.assertEqual(told, answer, line)
            self.assertIs(type(told), str)

    def changes_nothing(self, desk, *pairs):
        """Each line is answered so, by place and by name, and nothing is changed by it."""
        ahead = told_by(desk.yard)
        for line, answer in pairs:
            self.answered(desk, (line, answer))
            self.assertEqual(desk.tell(line=line), answer)
            self.assertEqual(told_by(desk.yard), ahead)


class AnswersTest(DeskCase):
    def test_deeds(self):
        desk = Desk()
        self.answered(desk, *LINES)
        yard = Yard()
        for deed in [
                ("machine", "vessel", 1), ("room", "vessel", "fill", [((1,), 10)], [(3,)]),
                ("room", "vessel", "drain", [((-1,), 0)], [(-1,), (-2,)]),
                ("door", "vessel", "fill", "drain", "turn", [((-1,), -8)], [((1,), 0)]),
                ("door", "vessel", "drain", "fill", "back", [((1,), 4)], [((1,), 0)]),
                ("begin", "vessel", "fill", [((1,), 1), ((-1,), 0)]), ("machine", "drip", 1),
                ("room", "drip", "on", [], [(0,)]), ("door", "drip", "on", "on", "drop", [], [((1,), 1)]),
                ("begin", "drip", "on", [((1,), 0), ((-1,), 0)]), ("pair", "both", "vessel", "drip")]:
            yard.do(deed)
        self.assertEqual(told_by(desk.yard), told_by(yard))
        self.answered(desk, ("shut vessel 1", "done"), ("door vessel fill drain turn : all : 1 + 0", "3"),
                      ("lose both", "done"), ("shut drip 1", "done"), ("room drip off : all : 1", "done"),
                      ("raze drip off", "done"))
        self.assertEqual(desk.yard.machine("vessel").doors(), [2, 3])
        self.assertEqual(desk.yard.machine("drip").rooms(), ["on"])

    def test_more_levels(self):
        desk = Desk()
        self.answered(desk, ("machine m 3", "done"),
                      ("room m a-b : 1 0 -2 <= -5; 0 0 1 <= 0 : 0 0 1; -1 0 0", "done"),
                      ("door m a-b a-b x : all : 0 0 1 + 5; 1 0 0 + -5; 0 -9 0 + 0", "1"),
                      ("begin m a-b : all", "done"))
        machine = desk.yard.machine("m")
        self.assertEqual(machine.room("a-b"), ([((1, 0, -2), -5), ((0, 0, 1), 0)], [(0, 0, 1), (-1, 0, 0)]))
        self.assertEqual(machine.door(1)[4], [((0, 0, 1), 5), ((1, 0, 0), -5), ((0, -9, 0), 0)])

    def test_back_and_again(self):
        desk = filled_desk()
        whole, whole_page = told_by(desk.yard), own_page(desk.yard)
        self.answered(desk, *[("undo", "done")] * len(LINES), ("undo", "no Nothing"))
        self.assertEqual(len(desk.yard), 0)
        self.answered(desk, *[("redo", "done")] * len(LINES), ("redo", "no Nothing"))
        self.assertEqual(told_by(desk.yard), whole)
        self.answered(desk, ("undo", "done"), ("what", "what"), ("lose vessel x", "what"),
                      ("shut vessel 9", "no NoDoor"), ("page", whole_page[:-len("pair both vessel drip\n")]),
                      ("redo", "done"), ("page", whole_page))
        self.answered(desk, ("undo", "done"), ("lose drip", "done"), ("redo", "no Nothing"))

    def test_ask_and_trail(self):
        desk = filled_desk()
        self.changes_nothing(
            desk, ("ask vessel fill : 1 <= 10", "come"), ("trail vessel fill : 1 <= 10", "none"),
            ("ask vessel drain : 1 <= 0", "come"), ("trail vessel drain : 1 <= 0", "1"),
            ("ask vessel fill : 1 <= -1", "never"), ("trail vessel fill : 1 <= -1", "never"),
            ("ask vessel drain : -1 <= -11", "never"), ("trail vessel drain : -1 <= -11", "never"),
            ("ask vessel drain : all", "come"), ("trail vessel drain : all", "1"),
            ("ask drip on : -1 <= -19", "come"), ("trail drip on : -1 <= -19", " ".join(["1"] * 19)),
            ("ask drip on : -1 <= -20", "open"), ("trail drip on : -1 <= -20", "open"),
            ("trail drip on : -1 <= -2", "1 1"), ("trail drip on : 1 <= 0", "none"), ("trail drip on : all", "none"),
            ("ask both fill-on : 0 -1 <= -2", "come"), ("trail both drain-on : 0 -1 <= 0; 1 0 <= 1", "1"),
            ("ask both drain-on : 1 0 <= -1", "open"))
        self.answered(desk, ("door vessel fill drain hop : 1 <= 7 : 1 + 9", "3"),
                      ("trail vessel drain : -1 <= -11", "3"), ("shut vessel 1", "done"), ("shut vessel 2", "done"),
                      ("door vessel drain fill back : all : 1 + -10", "4"), ("trail vessel fill : 1 <= -9", "3 4"))

    def test_trail_behind_other_found_lots(self):
        desk = Desk()
        self.answered(desk, ("machine a 1", "done"), ("room a r : all : 0", "done"), ("room a s : all : 0", "done"),
                      ("door a r r x : all : 0 + 1", "1"), ("door a r r x : all : 0 + 2", "2"),
                      ("door a r s x : 1 <= 1; -1 <= -1 : 0 + 7", "3"), ("door a r r x : all : 0 + 3", "4"),
                      ("begin a r : 1 <= 0; -1 <= 0", "done"), ("begin a s : 1 <= 5; -1 <= -5", "done"),
                      ("trail a r : 1 <= 2; -1 <= -2", "2"), ("trail a r : 1 <= 3; -1 <= -3", "4"),
                      ("trail a s : 1 <= 5; -1 <= -5", "none"), ("trail a s : 1 <= 7; -1 <= -7", "1 3"))

    def test_page(self):
        desk = Desk()
        self.changes_nothing(desk, ("page", ""))
        desk = filled_desk()
        self.changes_nothing(desk, ("page", own_page(desk.yard)))
        self.assertTrue(desk.tell("page").endswith("next 3\npair both vessel drip\n"))

    def test_the_very_same_yard_all_along(self):
        desk = Desk()
        yard = desk.yard
        self.assertIs(type(yard), Yard)
        for line, _ in LINES + [("undo", ""), ("lose vessel", ""), ("page", ""), ("undo", ""), ("nothing", "")]:
            desk.tell(line)
            self.assertIs(desk.yard, yard)
        yard.do(("machine", "c", 2))
        self.answered(desk, ("machine c 1", "no Taken"), ("undo", "done"), ("machine c 1", "done"))
        yard.together([("lose", "c"), ("machine", "c", 3)])
        self.answered(desk, ("undo", "done"), ("redo", "done"))
        self.assertEqual(yard.machine("c").count, 3)

    def test_desks_go_their_own_ways(self):
        one, other = Desk(), Desk()
        self.answered(one, ("machine a 1", "done"))
        self.answered(other, ("page", ""), ("undo", "no Nothing"))


class RefusalsTest(DeskCase):
    def test_each(self):
        desk = filled_desk()
        self.changes_nothing(
            desk, ("machine A 1", "no BadName"), ("machine vessel 0", "no Taken"), ("machine c 4", "no BadCount"),
            ("machine c -1", "no BadCount"), (f"machine c {BIG}", "no BadCount"), ("machine both 1", "no Taken"),
            ("pair C a b", "no BadName"), ("pair both a b", "no Taken"), ("pair c vessel nil", "no NoMachine"),
            ("pair c vessel both", "no Derived"), ("lose c", "no NoMachine"), ("lose drip", "no InUse"),
            ("room c r : all : 1", "no NoMachine"), ("room both r : all : 1", "no Derived"),
            ("room vessel R : all : 1", "no BadName"), ("room vessel fill : all : 1", "no Taken"),
            ("room vessel r : 1 1 <= 0 : 1", "no BadRow"), ("room vessel r : 100 <= 0 : 1", "no BadRow"),
            ("room vessel r : all : 1 1", "no BadSlope"), ("room vessel r : all : 1; 2; 3; 4; 5", "no BadSlope"),
            ("room vessel r : all : 10000", "no BadSlope"), ("room vessel r-s-t-u : all : 1", "no BadName"),
            ("room vessel r-s-t-u-v : all : 1", "no BadName"),
            ("door c a b x : all : 1 + 0", "no NoMachine"), ("door both a b x : all : 1 + 0", "no Derived"),
            ("door vessel a fill x : all : 1 + 0", "no NoRoom"), ("door vessel fill a x : all : 1 + 0", "no NoRoom"),
            ("door vessel fill fill X : all : 1 + 0", "no BadName"),
            ("door vessel fill fill x : 1 1 <= 0 : 1 + 0", "no BadRow"),
            ("door vessel fill fill x : all : 1 1 + 0", "no BadSums"),
            ("door vessel fill fill x : all : 1 + 0; 1 + 0", "no BadSums"),
            ("door vessel fill fill x : all : 10 + 0", "no BadSums"),
            ("begin vessel a : all", "no NoRoom"), ("begin vessel fill : 1 1 <= 0", "no BadRow"),
            ("begin both fill-on : all", "no Derived"), ("begin c fill : all", "no NoMachine"),
            ("raze vessel a", "no NoRoom"), ("raze vessel fill", "no InUse"), ("raze c fill", "no NoMachine"),
            ("raze both fill-on", "no Derived"), ("shut vessel 3", "no NoDoor"), ("shut vessel 0", "no NoDoor"),
            ("shut vessel -1", "no NoDoor"), (f"shut vessel {BIG}", "no NoDoor"), ("shut c 1", "no NoMachine"),
            ("shut both 1", "no Derived"), ("redo", "no Nothing"),
            ("ask c fill : all", "no NoMachine"), ("ask vessel a : all", "no NoRoom"),
            ("ask vessel fill : 1 1 <= 0", "no BadRow"), ("ask both fill : 1 1 <= 0", "no NoRoom"),
            ("trail c fill : 1 1 <= 0", "no NoMachine"), ("trail vessel a : 1 1 <= 0", "no NoRoom"),
            ("trail vessel fill : 1 1 <= 0", "no BadRow"), ("trail both fill-on : 1 <= 0", "no BadRow"))

    def test_full_and_what_pairs_refuse(self):
        desk = filled_desk()
        self.answered(desk, *[(f"machine {name} 1", "done") for name in "abcde"], ("machine f 1", "no Full"),
                      ("pair f a b", "no Full"), ("room drip r-s-t-u : all : 1", "no BadName"),
                      ("room drip r : all : 1; 2; 3", "no BadSlope"), ("lose both", "done"),
                      ("room drip r-s-t-u : all : 1; 2; 3", "done"), ("pair f drip vessel", "no BadName"),
                      ("raze drip r-s-t-u", "done"), ("machine f 3", "done"), ("lose a", "done"), ("lose b", "done"),
                      ("machine a 2", "done"), ("pair b a f", "no BadCount"))

    def test_names_are_any_texts_without_blanks(self):
        desk = filled_desk()
        for name in ("A", "-", "<=", "a:b", ";", "+", "a1", "~", "1", "{}", "\\", "x" * 99, ":x", "x:", "::"):
            self.changes_nothing(desk, (f"raze vessel {name}", "no NoRoom"), (f"lose {name}", "no NoMachine"),
                                 (f"pair {name} vessel drip", "no BadName"), (f"machine {name} 1", "no BadName"),
                                 (f"pair c vessel {name}", "no NoMachine"), (f"ask vessel {name} : all", "no NoRoom"),
                                 (f"room {name} r : all : 1", "no NoMachine"),
                                 (f"door vessel fill {name} x : all : 1 + 0", "no NoRoom"),
                                 (f"door vessel fill fill {name} : all : 1 + 0", "no BadName"))
        # A colon between blanks parts the line, so that it is a name at the line's end alone.
        self.changes_nothing(desk, ("lose :", "no NoMachine"), ("raze vessel :", "no NoRoom"), ("pair : a b", "what"),
                             ("ask vessel : : all", "what"), ("ask : fill : all", "what"), ("machine : 1", "what"))


class WhatTest(DeskCase):
    ORDINARY = ["machine c 1", "pair c vessel drip", "lose both", "room vessel r : 1 <= 0; -1 <= 0 : 1; 2",
                "door vessel fill fill x : 1 <= 0; -1 <= 0 : 1 + 0", "begin vessel fill : 1 <= 0; -1 <= 0",
                "raze vessel fill", "shut vessel 1", "undo", "redo", "ask vessel fill : 1 <= 0; 2 <= 0",
                "trail vessel fill : 1 <= 0; 2 <= 0", "page"]

    def what(self, *lines):
        desk = filled_desk()
        self.changes_nothing(desk, *[(line, "what") for line in lines])

    def test_the_ordinary_ones_are_none_of_these(self):
        for line in self.ORDINARY:
            self.assertNotEqual(filled_desk().tell(line), "what", line)

    def test_a_blank_more_or_less(self):
        for line in self.ORDINARY:
            spots = [spot for spot, sign in enumerate(line) if sign == " "]
            self.what(" " + line, line + " ", "  " + line, line + "  ")
            self.what(*[line[:spot] + " " + line[spot:] for spot in spots])
            self.what(*[line[:spot] + line[spot + 1:] for spot in spots])

    def test_a_word_more_or_less(self):
        for line in self.ORDINARY:
            parts = line.split(" : ")
            words = parts[0].split(" ")
            for spot in range(len(words)):
                self.what(" : ".join([" ".join(words[:spot] + words[spot + 1:])] + parts[1:]))
            for spot in range(1, len(words) + 1):
                self.what(" : ".join([" ".join(words[:spot] + ["x"] + words[spot:])] + parts[1:]))
                self.what(" : ".join([" ".join(words[:spot] + ["1"] + words[spot:])] + parts[1:]))

    def test_a_text_more_or_less(self):
        for line in self.ORDINARY:
            parts = line.split(" : ")
            self.what(line + " : ", line + " : all", line + " : 1", " : " + line, line + " : " + parts[-1])
            for spot in range(1, len(parts)):
                self.what(" : ".join(parts[:spot] + parts[spot + 1:]))
                self.what(" : ".join(parts[:spot] + [""] + parts[spot + 1:]))
                self.what(" : ".join(parts[:spot] + [""] + parts[spot:]))
                self.what(" : ".join(parts[:spot]) + ":" + " : ".join(parts[spot:]))
                self.what(" : ".join(parts[:spot]) + " :" + " : ".join(parts[spot:]))
                self.what(" : ".join(parts[:spot]) + ": " + " : ".join(parts[spot:]))

    def test_line_feeds_and_capitals(self):
        for line in self.ORDINARY:
            self.what(line + "\n", "\n" + line, line.upper(), line.capitalize())
            self.what(line + "\n" + line)
        self.what("lose bo\nth", "raze vessel \n", "raze vessel fi\nll", "lose \n")

    def test_no_line_at_all(self):
        self.what("", " ", ":", " : ", " :  : ", "what", "done", "come", "next 1", "together", "twin", "past", "pages",
                  "undo undo", "undo 1", "redo all", "page page", "page : all", "undo : ", "ask", "trail", "machine",
                  "ask vessel fill", "ask vessel : all", "ask : all", "ask vessel fill drain : all", "no Nothing")

    def test_numbers(self):
        lines = ["machine c {}", "shut vessel {}", "room vessel r : {} <= 0 : 1", "room vessel r : 0 <= {} : 1",
                 "room vessel r : 1 <= 0; {} <= 1 : 1", "room vessel r : all : {}", "room vessel r : all : 1; 0 {}",
                 "door vessel fill fill x : {} <= 0 : 1 + 0", "door vessel fill fill x : all : {} + 0",
                 "door vessel fill fill x : all : 1 + {}", "door vessel fill fill x : all : 1 + 0; {} + 0",
                 "begin vessel fill : {} <= 0", "ask vessel fill : 1 <= {}", "trail vessel fill : {} 1 <= 0"]
        for bad in ["01", "00", "-0", "-01", "+1", "1" + "0" * 20, "-1" + "0" * 20, "", "x", "1.0", "1e3", "--1", "- 1",
                    "1_0", "0x1", "\u0663", "1\u00b2", "one"]:
            self.what(*[line.format(bad) for line in lines])
        for line in lines:
            for good in ("0", "1", "-1", str(BIG), str(-BIG)):
                self.assertNotEqual(filled_desk().tell(line.format(good)), "what", line.format(good))

    def test_empty_slopes_and_sums(self):
        self.what("room vessel r : all : ", "room vessel r : all :", "room vessel r : all", "room vessel r :  : 1",
                  "door vessel fill fill x : all : ", "door vessel fill fill x : all", "room vessel r : all : all",
                  "door vessel fill fill x : all : all", "room c r : all : ", "room both r : all : ")

    def test_rows_slopes_and_sums_that_are_not_so_written(self):
        for rows in ["<= 1", " <= 1", "1 <=", "1 <= ", "1 < 1", "1 =< 1", "1 >= 1", "1", "1 1", "1 <= 1 1", "1 <= 1;",
                     "1 <= 1; ", "1 <= 1;1 <= 1", "1 <= 1 ; 1 <= 1", "; 1 <= 1", "all; 1 <= 1", "1 <= 1; all", "All",
                     "1  <= 1", "1 <=  1", "1<=1", "none", "<=", "1 <= 1 <= 1", "all "]:
            self.what(f"room vessel r : {rows} : 1", f"door vessel fill fill x : {rows} : 1 + 0",
                      f"begin vessel fill : {rows}", f"ask vessel fill : {rows}", f"trail vessel fill : {rows}")
        for slopes in ["1;", "1; ", ";1", "; 1", "1;2", "1 ; 2", "1  2", "1, 2", "1;  2", "1 + 1", "1 <= 1"]:
            self.what(f"room vessel r : all : {slopes}")
        for sums in ["1", "1 0", "+ 0", " + 0", "1 +", "1 + ", "1 + 0;", "1 + 0; ", "1 + 0;1 + 0", "1 +0", "1+ 0",
                     "1 - 0", "1 + 0 + 0", "1  + 0", "1 +  0", "1 + 0 0", "+", "1 + 0; + 1", "1 <= 0"]:
            self.what(f"door vessel fill fill x : all : {sums}")

    def test_any_counts_of_numbers(self):
        desk = filled_desk()
        self.changes_nothing(
            desk, ("room vessel r : 1 1 <= 0; 1 <= 0 : 1; 2 3", "no BadRow"),
            ("room vessel r : all : 1; 2 3", "no BadSlope"),
            ("door vessel fill fill x : 1 2 3 4 5 6 7 8 9 <= 0 : 1 2 + 0; 3 + 0", "no BadRow"),
            ("door vessel fill fill x : all : 1 2 + 0; 3 + 0", "no BadSums"),
            ("ask vessel fill : 1 <= 0; 1 2 3 <= 0", "no BadRow"))


class OwnDesk:
    """The tests' own desk over the tests' own yard; it asks Searches, which are tested by themselves."""

    FORMS = {"machine": "wn", "pair": "www", "lose": "w", "room": "ww", "door": "wwww", "begin": "ww", "raze": "ww",
             "shut": "wn", "undo": "", "redo": "", "ask": "ww", "trail": "ww", "page": ""}
    TEXTS = {"room": [(ROWS, read_rows), (SLOPES, read_slopes)], "door": [(ROWS, read_rows), (SUMS, read_sums)],
             "begin": [(ROWS, read_rows)], "ask": [(ROWS, read_rows)], "trail": [(ROWS, read_rows)]}

    def __init__(self):
        self.own = OwnYard()

    def parsed(self, line):
        head, *texts = line.split(" : ")
        word, *names = head.split(" ")
        if "\n" in line or word not in self.FORMS or "" in names or len(names) != len(self.FORMS[word]):
            return None
        things = [word]
        for kind, name in zip(self.FORMS[word], names):
            if kind == "n" and not re.fullmatch(NUMBER, name):
                return None
            things.append(int(name) if kind == "n" else name)
        forms = self.TEXTS.get(word, [])
        if len(forms) != len(texts):
            return None
        for (form, read), text in zip(forms, texts):
            if not re.fullmatch(form, text):
                return None
            things.append(read(text))
        return tuple(things)

    def tell(self, line, yard):
        """The answer; the yard stands as this desk's own one, and is asked what tells the same of both alone."""
        deed = self.parsed(line)
        if deed is None:
            return "what"
        try:
            if deed[0] in ("ask", "trail"):
                return self.searched(deed, yard)
            if deed[0] == "page":
                return own_page(yard)
            if deed[0] in ("undo", "redo"):
                getattr(self.own, deed[0])()
                return "done"
            answer = self.own.do(deed)
            return "done" if answer is None else str(answer)
        except Refused as refusal:
            return f"no {refusal}"
        except (SlopeError, Absent) as refusal:
            return f"no {type(refusal).__name__}"

    def searched(self, deed, yard):
        word, name, room, rows = deed
        search = Search(yard.machine(name), room, rows)
        while search.word() == "open" and search.left() and search.go() == "open":
            pass
        if word == "ask" or search.word() != "come":
            return search.word()
        return " ".join(map(str, search.run()[2][1::2])) or "none"


class OwnDeskTest(DeskCase):
    def line_of(self, deed):
        word = deed[0]
        if word == "room":
            return f"room {deed[1]} {deed[2]} : {written_rows(deed[3])} : {'; '.join(map(written, deed[4]))}"
        if word == "begin":
            return f"begin {deed[1]} {deed[2]} : {written_rows(deed[3])}"
        if word == "door":
            sums = "; ".join(f"{written(weights)} + {more}" for weights, more in deed[6])
            return f"door {' '.join(deed[1:5])} : {written_rows(deed[5])} : {sums}"
        return " ".join(map(str, deed))

    def some_line(self, source, own):
        kind = source.random()
        if kind < 0.2:
            return source.choice(["undo", "undo", "redo", "page"])
        if kind < 0.35 and own.singles:
            name = source.choice(own.names())
            rooms = own.singles[name].rooms() if name in own.singles else ["r-r", "r-s", "t-t"]
            count = own.singles[name].count if name in own.singles else 2
            rows = [(tuple(source.randint(-2, 2) for _ in range(count)), source.randint(-9, 3))]
            return f"{source.choice(['ask', 'trail'])} {name} {source.choice(rooms + ['t'])} : {written_rows(rows)}"
        line = self.line_of(some_deed(source, own))
        if source.random() < 0.2:
            spot = source.randrange(len(line) + 1)
            sign = source.choice(" :;+-<=019ab\n") * source.choice([0, 1, 1, 2])
            line = line[:spot] + sign + line[spot + source.randint(0, 1):]
        return line

    def test_random(self):
        source = random.Random(151)
        answers = {}
        for _ in range(40):
            desk, own = Desk(), OwnDesk()
            for _ in range(80):
                line = self.some_line(source, own.own)
                answer = own.tell(line, desk.yard)
                self.assertEqual(desk.tell(line), answer, line)
                self.assertEqual(told_by(desk.yard), own.own.told())
                kind = "number" if answer[:1].isdigit() else "page" if "\n" in answer else answer
                answers[kind] = answers.get(kind, 0) + 1
        due = {"done", "number", "what", "come", "never", "none", "page", "no BadName", "no Taken", "no NoRoom",
               "no NoMachine", "no BadRow", "no BadSums", "no Full", "no InUse", "no NoDoor", "no Nothing",
               "no BadCount"}
        self.assertEqual(due - set(answers), set())


if __name__ == "__main__":
    unittest.main()
