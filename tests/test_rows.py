import random
import unittest
from math import gcd

from slopeyard.errors import BadState, BadText
from slopeyard.rows import holds, plain_row, read_row, read_rows, row_text, rows_text
from tests.reckoning import come_to

BIG = 10 ** 20 - 1


class PlainRowTest(unittest.TestCase):
    def test_ordinary(self):
        self.assertEqual(plain_row(((4, -6), 10)), ((2, -3), 5))
        self.assertEqual(plain_row(((4, -6), 9)), ((4, -6), 9))
        self.assertEqual(plain_row(((-3,), -6)), ((-1,), -2))

    def test_noughts(self):
        self.assertEqual(plain_row(((0, 0), 0)), ((0, 0), 0))
        self.assertEqual(plain_row(((0, 0), 7)), ((0, 0), 1))
        self.assertEqual(plain_row(((0, 0), -7)), ((0, 0), -1))
        self.assertEqual(plain_row(((0, 5), 0)), ((0, 1), 0))

    def test_many(self):
        source = random.Random(5)
        for _ in range(200):
            numbers = [source.randint(-3, 3) * source.choice([1, 6, 10 ** 18]) for _ in range(4)]
            row = (tuple(numbers[:3]), numbers[3])
            weights, bound = plain_row(row)
            share = gcd(*numbers) or 1
            self.assertEqual([*weights, bound], [number // share for number in numbers])
            self.assertEqual(plain_row((weights, bound)), (weights, bound))

    def test_told_kinds_and_names(self):
        weights, bound = plain_row(row=((2, 4), 6))
        self.assertIs(type(weights), tuple)
        self.assertIs(type(bound), int)


class HoldsTest(unittest.TestCase):
    def test_just_at_the_bound_and_beside(self):
        row = ((2, -1), 5)
        self.assertIs(holds(row, ((3, 1), (1, 1))), True)
        self.assertIs(holds(row, ((3001, 1000), (1, 1))), False)
        self.assertIs(holds(row, ((2999, 1000), (1, 1))), True)
        self.assertIs(holds(row, ((6, 2), (4, 4))), True)

    def test_noughts(self):
        self.assertIs(holds(((0, 0), 0), ((9, 1), (-9, 7))), True)
        self.assertIs(holds(((0, 0), -1), ((9, 1), (-9, 7))), False)
        self.assertIs(holds(((0, 0), 1), ((9, 1), (-9, 7))), True)

    def test_another_count(self):
        self.assertRaises(BadState, holds, ((1, 2), 3), ((1, 1),))
        self.assertRaises(BadState, holds, ((1, 2), 3), ((1, 1), (1, 1), (1, 1)))
        self.assertRaises(BadState, holds, ((1, 2), 3), ())

    def test_against_fractions(self):
        source = random.Random(6)
        for _ in range(300):
            most = source.choice([4, BIG])
            row = (tuple(source.randint(-most, most) for _ in range(3)), source.randint(-most, most))
            state = tuple((source.randint(-9, 9), source.randint(1, 9)) for _ in range(3))
            self.assertIs(holds(row=row, state=state), come_to(row[0], state) <= row[1])


class TextTest(unittest.TestCase):
    def test_written(self):
        self.assertEqual(row_text(((2, -1), 5)), "2 -1 <= 5")
        self.assertEqual(row_text(((0,), -0)), "0 <= 0")
        self.assertEqual(row_text(((BIG, -BIG), -BIG)), f"{BIG} -{BIG} <= -{BIG}")
        self.assertEqual(rows_text([((1,), 2), ((-1,), 0)]), "1 <= 2; -1 <= 0")
        self.assertEqual(rows_text((((1,), 2),)), "1 <= 2")
        self.assertEqual(rows_text([]), "all")
        self.assertEqual(rows_text(()), "all")

    def test_numbers_that_were_told_may_be_longer(self):
        long = 10 ** 6000 + 7
        text = row_text(((-long,), long))
        figures = "1" + "0" * 5999 + "7"
        self.assertEqual(text, "-" + figures + " <= " + figures)
        self.assertEqual(row_text(((BIG * 10,), 1)), "9" * 20 + "0 <= 1")

    def test_read(self):
        self.assertEqual(read_row("2 -1 <= 5", count=2), ((2, -1), 5))
        self.assertEqual(read_row("0 <= 0", count=1), ((0,), 0))
        self.assertEqual(read_row(f"-{BIG} <= {BIG}", count=1), ((-BIG,), BIG))
        self.assertEqual(read_row(text="4 -6 <= 10", count=2), ((4, -6), 10))
        self.assertEqual(read_rows("all", count=3), [])
        self.assertEqual(read_rows("1 <= 2; -1 <= 0", count=1), [((1,), 2), ((-1,), 0)])
        self.assertEqual(read_rows(text="2 2 <= 2; 2 2 <= 2", count=2), [((2, 2), 2)] * 2)

    def test_read_kinds(self):
        weights, bound = read_row("1 2 <= 3", count=2)
        self.assertIs(type(weights), tuple)
        self.assertIs(type(bound), int)
        self.assertIs(type(read_rows("1 2 <= 3", count=2)), list)

    def test_each_list_is_new(self):
        first = read_rows("1 <= 2", count=1)
        first.append("more")
        self.assertEqual(read_rows("1 <= 2", count=1), [((1,), 2)])
        none = read_rows("all", count=1)
        none.append("more")
        self.assertEqual(read_rows("all", count=1), [])

    def test_other_texts_are_refused(self):
        for text in ["", " ", "<=", "<= 5", "1 <= ", "1 <=", " 1 <= 5", "1 <= 5 ", "1  <= 5", "1 <=  5", "1<= 5",
                     "1 <=5", "1 < 5", "1 >= 5", "1 = 5", "01 <= 5", "1 <= 05", "-0 <= 5", "1 <= -0", "+1 <= 5",
                     "1 <= +5", "- 1 <= 5", "--1 <= 5", "1- <= 5", "1.0 <= 5", "1_0 <= 5", "00 <= 5", "-01 <= 5",
                     "1 2 <= 5", "1 <= 5 6", "1 <= 5\n", "\n1 <= 5", "1\n<= 5", "a <= 5", "1 <= x", "1 <= 5;",
                     "1 <= 1" + "0" * 20, "1" + "0" * 20 + " <= 1", "-1" + "0" * 20 + " <= 1", "all", "1 <= <=",
                     "1 <= 5 <= 6", "0x1 <= 5", "1e2 <= 5"]:
            with self.subTest(text=text):
                with self.assertRaises(BadText) as caught:
                    read_row(text, count=1)
                self.assertEqual(caught.exception.row, 0)

    def test_other_texts_of_rows_are_refused(self):
        for text in ["", "all ", " all", "All", "all; all", "1 <= 5; all", "1 <= 5;", "1 <= 5; ", "1 <= 5;1 <= 6",
                     "1 <= 5 ; 1 <= 6", "1 <= 5;  1 <= 6", "; 1 <= 5", "1 <= 5, 1 <= 6", "1 <= 5\n1 <= 6",
                     "1 <= 5; 1 2 <= 6", "1 <= 5; -0 <= 6", "all\n", "1 <= 5; ; 1 <= 5"]:
            with self.subTest(text=text):
                with self.assertRaises(BadText) as caught:
                    read_rows(text, count=1)
                self.assertEqual(caught.exception.row, 0)

    def test_another_count_of_weights(self):
        for text, count in [("1 2 <= 3", 1), ("1 2 <= 3", 3), ("1 2 3 <= 3", 2), ("1 <= 3", 8)]:
            self.assertRaises(BadText, read_row, text, count=count)
            self.assertRaises(BadText, read_rows, text, count=count)

    def test_the_count_is_handed_in_by_name(self):
        with self.assertRaises(TypeError):
            read_row("1 <= 2", 1)
        with self.assertRaises(TypeError):
            read_rows("1 <= 2", 1)

    def test_what_is_written_is_read_again(self):
        source = random.Random(8)
        for _ in range(100):
            count = source.randint(1, 8)
            most = source.choice([3, BIG])
            rows = [(tuple(source.randint(-most, most) for _ in range(count)), source.randint(-most, most))
                    for _ in range(source.randint(0, 6))]
            self.assertEqual(read_rows(rows_text(rows), count=count), rows)
            for row in rows:
                self.assertEqual(read_row(row_text(row), count=count), row)

    def test_nothing_handed_in_is_changed(self):
        rows = [((4, 2), 6), ((0, 0), 3)]
        rows_text(rows)
        plain_row(rows[0])
        self.assertEqual(rows, [((4, 2), 6), ((0, 0), 3)])


if __name__ == "__main__":
    unittest.main()
