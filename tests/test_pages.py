import random
import unittest

from slopeyard.errors import BadText, Nothing
from slopeyard.pages import page, read
from slopeyard.yard import Yard
from tests.paging import own_fault, own_page
from tests.yarding import OwnYard, Refused, some_deed, told_by

BIG = 10 ** 20 - 1

DEEDS = [
    ("machine", "mill", 2),
    ("machine", "a", 1),
    ("room", "a", "r", [], [(0,)]),
    ("room", "mill", "low-b", [((1, 0), 5), ((0, -12), -7)], [(1, -1), (0, 0)]),
    ("room", "mill", "high", [], [(-9999, 9999)]),
    ("door", "mill", "low-b", "high", "go", [((0, 1), 3)], [((1, 0), -3), ((0, 2), 0)]),
    ("door", "mill", "high", "high", "x", [], [((0, 0), 999), ((-9, 9), 1)]),
    ("door", "mill", "high", "low-b", "go", [], [((1, 0), 0), ((0, 1), 0)]),
    ("begin", "mill", "high", [((99, -99), 9999)]),
    ("begin", "mill", "low-b", []),
    ("shut", "mill", 1),
    ("shut", "mill", 3),
    ("pair", "z", "mill", "a"),
    ("pair", "b", "a", "a"),
]
LINES = [
    "machine a 1",
    "room r : all : 0",
    "next 1",
    "machine mill 2",
    "room low-b : 1 0 <= 5; 0 -12 <= -7 : 1 -1; 0 0",
    "room high : all : -9999 9999",
    "door 2 high high x : all : 0 0 + 999; -9 9 + 1",
    "begin high : 99 -99 <= 9999",
    "begin low-b : all",
    "next 4",
    "pair b a a",
    "pair z mill a",
]


def text_of(lines):
    return "".join(line + "\n" for line in lines)


def yard_of(deeds):
    yard = Yard()
    for deed in deeds:
        yard.do(deed)
    return yard


class PageCase(unittest.TestCase):
    def wrong(self, row, text):
        for call in (lambda: read(text), lambda: read(text=text)):
            with self.assertRaises(BadText) as caught:
                call()
            self.assertEqual(caught.exception.row, row, text)
        self.assertEqual(own_fault(text), row, text)

    def right(self, lines):
        text = text_of(lines)
        self.assertIsNone(own_fault(text), text)
        yard = read(text)
        self.assertEqual(page(yard), text)
        self.assertEqual(own_page(yard), text)
        return yard

    def changed(self, place, *others):
        return LINES[:place] + list(others) + LINES[place + 1:]


class WrittenTest(PageCase):
    def test_sign_by_sign(self):
        yard = yard_of(DEEDS)
        ahead = told_by(yard)
        for _ in range(2):
            self.assertEqual(page(yard), text_of(LINES))
        self.assertEqual(page(yard=yard), own_page(yard))
        self.assertEqual(told_by(yard), ahead)

    def test_an_empty_yard(self):
        self.assertEqual(page(Yard()), "")
        yard = read("")
        self.assertEqual((len(yard), told_by(yard)), (0, told_by(Yard())))

    def test_a_machine_without_anything(self):
        self.assertEqual(page(yard_of([("machine", "a", 3)])), "machine a 3\nnext 1\n")
        yard = yard_of([("machine", "a", 1), ("machine", "b", 1), ("pair", "aa", "b", "a")])
        self.assertEqual(page(yard), "machine a 1\nnext 1\nmachine b 1\nnext 1\npair aa b a\n")

    def test_rooms_and_beginnings_by_order_and_doors_by_numbers(self):
        yard = Yard()
        yard.do(("machine", "a", 1))
        for room in ("z", "b", "y"):
            yard.do(("room", "a", room, [], [(1,)]))
        for room in ("y", "z"):
            yard.do(("begin", "a", room, []))
        for word in ("q", "p"):
            yard.do(("door", "a", "y", "b", word, [], [((1,), 0)]))
        self.assertEqual(page(yard).split("\n"), [
            "machine a 1", "room z : all : 1", "room b : all : 1", "room y : all : 1",
            "door 1 y b q : all : 1 + 0", "door 2 y b p : all : 1 + 0", "begin y : all", "begin z : all", "next 3", ""])


class ReadTest(PageCase):
    def test_with_nothing_to_take_back(self):
        yard = self.right(LINES)
        other = yard_of(DEEDS)
        self.assertEqual(yard, other)
        self.assertEqual(told_by(yard)[:4], told_by(other)[:4])
        self.assertEqual(yard.past(), [])
        self.assertRaises(Nothing, yard.undo)
        self.assertRaises(Nothing, yard.redo)

    def test_it_goes_on_from_there(self):
        yard = self.right(LINES)
        self.assertEqual(yard.do(("door", "mill", "high", "high", "x", [], [((1, 0), 0), ((0, 1), 0)])), 4)
        yard.undo()
        self.assertEqual(yard, read(text_of(LINES)))
        self.assertEqual(page(yard), text_of(LINES))

    def test_numbers_of_doors_and_the_next_one(self):
        door = "door {} r r x : all : 1 + 0".format
        ahead = ["machine a 1", "room r : all : 0"]
        for numbers, coming in [([], 1), ([], 7), ([1], 2), ([3], 4), ([3], 10), ([1, 2, 9], 10), ([], BIG),
                                ([BIG - 2, BIG - 1], BIG), ([5], BIG)]:
            yard = self.right(ahead + [door(number) for number in numbers] + [f"next {coming}"])
            machine = yard.machine("a")
            self.assertEqual((machine.doors(), machine.coming()), (numbers, coming))
            self.assertEqual(yard.do(("door", "a", "r", "r", "x", [], [((1,), 0)])), coming)
        for numbers, row in [([0], 2), ([-1], 2), ([1, 1], 3), ([2, 1], 3), ([1, 3, 2], 4), ([5, 6, 0], 4)]:
            self.wrong(row, text_of(ahead + [door(number) for number in numbers] + ["next 50"]))
        for numbers, coming in [([], 0), ([], -1), ([1], 1), ([1], 0), ([7], 7), ([7], 6), ([1, 9], 9), ([BIG], BIG)]:
            lines = ahead + [door(number) for number in numbers] + [f"next {coming}"]
            self.wrong(len(lines) - 1, text_of(lines))
            self.wrong(len(lines) - 1, text_of(lines + ["machine a 1", "what"]))

    def test_rows_that_are_not_plain_and_stand_twice(self):
        self.right(["machine a 1", "room r : 2 <= 4; 2 <= 4; 0 <= 0; 0 <= -1 : 3; 3", "begin r : 4 <= 2", "next 1"])

    def test_as_many_as_there_may_be(self):
        rows = "; ".join(["99 -99 <= -9999"] * 8)
        names = ["a", "b", "c", "d", "e", "f", "g", "h", "i", "j", "k", "abcdefgh-b-c-d"]
        lines = ["machine a 2"] + [f"room {name} : {rows} : 9999 -9999; 0 0; 1 1; 2 2" for name in names]
        doors = [f"door {number} a b x : {rows} : 9 -9 + 999; 0 0 + -999" for number in range(1, 25)]
        begins = [f"begin a : {rows}"] * 8
        end = ["next 25"] + [line for name in "bcdefgh" for line in (f"machine {name} 3", "next 1")]
        self.right(lines + doors + begins + end)
        self.wrong(13, text_of(lines + ["room l : all : 0 0"] + doors + begins + end))
        more = [doors[0].replace("door 1 ", "door 30 ")]
        self.wrong(37, text_of(lines + doors + more + begins + end))
        self.wrong(45, text_of(lines + doors + begins + begins[:1] + end))
        self.wrong(60, text_of(lines + doors + begins + end + ["machine i 1", "next 1"]))


class WrongTest(PageCase):
    def test_lines_that_are_none_at_each_place(self):
        for bad in ["", " ", "what", "Machine a 1", "machine", "room", ":", " : ", "lose a", "page", "undo", "all",
                    "machine a", "next", "pair a b", "begin", "door"]:
            for place in range(len(LINES)):
                self.wrong(place, text_of(LINES[:place] + [bad] + LINES[place:]))
                self.wrong(place, text_of(self.changed(place, bad)))
            self.wrong(len(LINES), text_of(LINES + [bad]))
            self.wrong(len(LINES), text_of(LINES) + bad + "x")

    def test_blanks(self):
        for place, line in enumerate(LINES):
            spots = [spot for spot, sign in enumerate(line) if sign == " "]
            others = [" " + line, line + " "] + [line[:spot] + " " + line[spot:] for spot in spots]
            others += [line[:spot] + line[spot + 1:] for spot in spots]
            others += [line.replace(" ", "\t"), line + "\r", line + "\t"]
            for other in others:
                self.wrong(place, text_of(self.changed(place, other)))

    def test_words(self):
        for place, line in enumerate(LINES):
            words = line.split(" ")
            for spot in range(len(words)):
                self.wrong(place, text_of(self.changed(place, " ".join(words[:spot] + words[spot + 1:]))))
            self.wrong(place, text_of(self.changed(place, line.upper())))

    def test_numbers(self):
        for bad in ["01", "+1", "-0", "00", "1.0", "1" + "0" * 20, "", "x", "--1", "1-", "-", "0x1", "1_0"]:
            for place, lines in [(0, ["machine a {}"]), (1, ["machine a 1", "room r : {} <= 1 : 1"]),
                                 (1, ["machine a 1", "room r : 1 <= {} : 1"]),
                                 (1, ["machine a 1", "room r : all : {}"]),
                                 (1, ["machine a 1", "room r : all : 1; {}"]),
                                 (2, ["machine a 1", "room r : all : 1", "door {} r r x : all : 1 + 0"]),
                                 (2, ["machine a 1", "room r : all : 1", "door 1 r r x : {} <= 1 : 1 + 0"]),
                                 (2, ["machine a 1", "room r : all : 1", "door 1 r r x : all : {} + 0"]),
                                 (2, ["machine a 1", "room r : all : 1", "door 1 r r x : all : 1 + {}"]),
                                 (2, ["machine a 1", "room r : all : 1", "begin r : 1 <= 2; {} <= 3"]),
                                 (1, ["machine a 1", "next {}"])]:
                end = [] if lines[-1].startswith("next") else ["next 99"]
                if lines[-1].startswith("machine"):
                    end = ["next 1"]
                self.wrong(place, text_of([line.format(bad) for line in lines] + end))
                self.right([line.format(1) for line in lines] + end)

    def test_wrong_places(self):
        machine = ["machine a 1", "room r : all : 0", "door 1 r r x : all : 1 + 0", "begin r : all", "next 2"]
        pair = ["pair p a a"]
        self.right(machine + pair)
        for lines, row in [
                (machine[1:], 0), (machine[2:], 0), (machine[3:], 0), (machine[4:], 0), (pair + machine, 0),
                ([machine[0], machine[0]], 1), (machine[:2] + ["machine b 1", "next 1"], 2),
                (machine[:3] + [machine[1].replace(" r ", " s ")] + machine[3:], 3),
                (machine[:4] + [machine[1].replace(" r ", " s ")] + machine[4:], 4),
                (machine[:4] + [machine[2].replace("1", "2", 1)] + ["next 3"], 4),
                (machine + machine[4:], 5), (machine + [machine[1].replace(" r ", " s ")], 5),
                (machine + machine[2:3], 5), (machine + machine[3:4], 5),
                (machine[:4] + pair + machine[4:], 4), (machine[:1] + pair + machine[1:], 1),
                (machine + pair + ["machine b 1", "next 1"], 6), (machine + pair + ["next 3"], 6),
                (machine + pair + machine[1:2], 6), (machine + pair + machine[2:3], 6),
                (machine + pair + machine[3:4], 6)]:
            self.wrong(row, text_of(lines))

    def test_names_that_do_not_rise(self):
        def of(name):
            return [f"machine {name} 1", "next 1"]
        self.right(of("a") + of("aa") + of("b") + ["pair ab a a", "pair c b a", "pair d a b"])
        self.wrong(2, text_of(of("b") + of("a")))
        self.wrong(2, text_of(of("a") + of("a")))
        self.wrong(4, text_of(of("a") + of("c") + of("b")))
        self.wrong(2, text_of(of("aa") + of("a")))
        self.wrong(3, text_of(of("a") + ["pair c a a", "pair b a a"]))
        self.wrong(3, text_of(of("a") + ["pair c a a", "pair c a a"]))
        self.wrong(2, text_of(of("a") + ["pair a a a"]))
        self.right(of("x") + of("z") + ["pair a x x", "pair y z x"])

    def test_refused_behind_the_lines_ahead(self):
        ahead, room = ["machine a 1"], "room r : all : 0"
        for lines, row in [
                (["machine A 1", "next 1"], 0), (["machine abcdefghi 1", "next 1"], 0), (["machine a 0", "next 1"], 0),
                (["machine a 4", "next 1"], 0), (["machine a -1", "next 1"], 0),
                (ahead + ["room R : all : 0", "next 1"], 1), (ahead + [room, room, "next 1"], 2),
                (ahead + ["room r : 1 1 <= 0 : 0", "next 1"], 1), (ahead + ["room r : 100 <= 0 : 0", "next 1"], 1),
                (ahead + ["room r : 1 <= 10000 : 0", "next 1"], 1), (ahead + ["room r : all : 0 0", "next 1"], 1),
                (ahead + ["room r : all : 10000", "next 1"], 1),
                (ahead + ["room r : all : 1; 1; 1; 1; 1", "next 1"], 1),
                (ahead + ["room r : " + "; ".join(["1 <= 1"] * 9) + " : 1", "next 1"], 1),
                (ahead + [room, "door 1 r s x : all : 1 + 0", "next 2"], 2),
                (ahead + [room, "door 1 s r x : all : 1 + 0", "next 2"], 2),
                (ahead + [room, "door 1 r r X : all : 1 + 0", "next 2"], 2),
                (ahead + [room, "door 1 r r x : 1 1 <= 1 : 1 + 0", "next 2"], 2),
                (ahead + [room, "door 1 r r x : all : 1 1 + 0", "next 2"], 2),
                (ahead + [room, "door 1 r r x : all : 1 + 0; 1 + 0", "next 2"], 2),
                (ahead + [room, "door 1 r r x : all : 10 + 0", "next 2"], 2),
                (ahead + [room, "begin s : all", "next 1"], 2), (ahead + [room, "begin r : 1 1 <= 0", "next 1"], 2),
                (ahead + ["begin r : all", "next 1"], 1),
                (ahead + ["next 1", "pair b a c"], 2), (ahead + ["next 1", "pair B a a"], 2),
                (ahead + ["next 1", "pair b a a", "pair c a b"], 3), (ahead + ["next 1", "pair b c a"], 2),
                (["machine a 3", "next 1", "pair b a a"], 2),
                (ahead + ["room x-x-x : all : 0", "next 1", "pair b a a"], 3),
                (ahead + ["room x : all : 0; 0; 0", "next 1", "pair b a a"], 3),
                (ahead + [f"room {name} : all : 0" for name in "rstu"] + ["next 1", "pair b a a"], 6)]:
            self.wrong(row, text_of(lines))

    def test_no_slopes_and_no_sums(self):
        for line in ["room r : all : ", "room r : all :", "room r : all", "room r :  : 0", "room r : : 0", "room r",
                     "room r : all : 0 : 0", "room r : all : 0; ", "room r : all : ; 0", "room r : all; 1 <= 1 : 0",
                     "room r : 1 <= 1;1 <= 1 : 0", "room r : <= 1 : 0", "room r : 1 <= : 0", "room r : 1 < 1 : 0",
                     "room r : 1 <= 1 1 : 0", "room r : ALL : 0", "room r : all : all", "room r: all : 0"]:
            self.wrong(1, text_of(["machine a 1", line, "next 1"]))
        for line in ["door 1 r r x : all : ", "door 1 r r x : all", "door 1 r r x : all : + 0",
                     "door 1 r r x : all : 1 +", "door 1 r r x : all : 1 0", "door 1 r r x : all : 1 + 0;",
                     "door 1 r r x : all : 1 + 0; ",
                     "door 1 r r : all : 1 + 0", "door r r x : all : 1 + 0", "door 1 r r x y : all : 1 + 0",
                     "door 1 r r x : all : 1 - 0", "door 1 r r x : all : 1 + 0 : 1", "door 1 r r x : all : all",
                     "door 1 r r x : all : 1 + + 0", "door 1 r r x : : 1 + 0", "begin r : ", "begin r",
                     "begin r : all : all"]:
            self.wrong(2, text_of(["machine a 1", "room r : all : 0", line, "next 2"]))

    def test_line_feeds(self):
        text = text_of(LINES)
        self.wrong(len(LINES) - 1, text[:-1])
        self.wrong(len(LINES), text + "\n")
        self.wrong(0, "\n" + text)
        self.wrong(0, "\n")
        self.wrong(0, "machine a 1")
        self.wrong(1, "machine a 1\nnext 1")
        self.wrong(len(LINES), text + "pair zz a a")
        self.wrong(0, "x")
        # A wrong line ahead of one without its line feed goes first.
        self.wrong(3, text_of(self.changed(3, "what"))[:-1])

    def test_lines_that_should_be_there(self):
        for many in range(len(LINES) + 1):
            lines = LINES[:many]
            if many in (0, 3, 10, 11, 12):
                self.right(lines)
            else:
                self.wrong(many, text_of(lines))
        self.wrong(2, text_of(LINES[:2] + LINES[3:]))
        self.wrong(0, text_of(LINES[1:]))
        self.wrong(9, text_of(LINES[:9] + LINES[10:]))

    def test_made_by_its_field(self):
        try:
            read("machine a 1\n")
        except BadText as refusal:
            self.assertEqual(refusal.row, 1)


class OwnPagesTest(PageCase):
    def some_page(self, source, many):
        own, yard = OwnYard(), Yard()
        for _ in range(many):
            deed = some_deed(source, own)
            try:
                own.do(deed)
            except Refused:
                continue
            yard.do(deed)
        return yard

    def test_read_and_written_again(self):
        source = random.Random(141)
        for _ in range(60):
            yard = self.some_page(source, source.choice([5, 30, 80]))
            text = page(yard)
            self.assertEqual(text, own_page(yard))
            other = read(text)
            self.assertEqual(told_by(other)[:4], told_by(yard)[:4])
            self.assertEqual(other, yard)
            self.assertEqual((page(other), other.past()), (text, []))
            self.assertRaises(Nothing, other.undo)

    def changed_somehow(self, source, text):
        lines = text.split("\n")
        place, other = source.randrange(len(lines)), source.randrange(len(lines))
        kind = source.randrange(8)
        if kind == 0:
            del lines[place]
        elif kind == 1:
            lines.insert(place, lines[other])
        elif kind == 2:
            lines[place], lines[other] = lines[other], lines[place]
        elif kind == 3:
            return text[:source.randrange(len(text) + 1)]
        elif kind == 4:
            words = lines[place].split(" ")
            words[source.randrange(len(words))] = source.choice(text.split())
            lines[place] = " ".join(words)
        else:
            spot = source.randrange(len(text) + 1)
            sign = source.choice(" \n:;+-<=0123456789abrstxyz" if kind < 7 else text)
            return text[:spot] + sign * (kind != 5) + text[spot + (kind != 6):]
        return "\n".join(lines)

    def test_wrong_somehow(self):
        source = random.Random(142)
        rows, still_right = 0, 0
        for _ in range(30):
            text = page(self.some_page(source, 50))
            for _ in range(40):
                other = self.changed_somehow(source, text)
                fault = own_fault(other)
                if fault is None:
                    self.assertEqual(page(read(other)), other)
                    still_right += 1
                else:
                    self.wrong(fault, other)
                    rows += fault > 3
        self.assertGreater(rows, 200)
        self.assertGreater(still_right, 20)


if __name__ == "__main__":
    unittest.main()
