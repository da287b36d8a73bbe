"""Promises 3.1 and 0.2 (a): readings, what they cost, and the first ones of all."""

import random
import unittest

from dotread.alphabets import Alphabet, set_line
from dotread.dots import with_turned
from dotread.errors import NoLine, NoPlace, NoReading, NoShape, TooMany
from dotread.reading import cost, drawn, fit, next_ones, read
from tests.brute import (
    MARGINS, NARROW, NEAR, ONE, ONE_SIGN, PARTS, SMALL, all_readings, counted, in_order, lines_of, set_lines,
    windows_of,
)
from tests.things import AlwaysEqual, Hostile, full, made, numbers, others, refusal

LINE = ("#.#.##", "###.##")


def small_lines():
    """Pairs (alphabet, line) of which all readings are soon gone through."""
    pairs = []
    for alphabet in SMALL:
        most = {1: 9, 2: 11}.get(len(alphabet), 6)
        for columns in (1, 2, 3, most):
            pairs += [(alphabet, line) for line in lines_of(alphabet, columns)]
        pairs += [(alphabet, line) for line in set_lines(alphabet, most + 1)]
    return pairs


def no_lines():
    """What is no line of two rows."""
    return [*others(), *numbers(), ("#",), ("#", "#", "#"), full(2, 61), full(2, 120), full(2, 121), full(60, 60), "##",
            ["#", "#"], ("#", "##"), ("#", "x"), ("#", " "), ("", ""), (list("#"), list("#")), ("#", "#\n"), ("#", 1),
            ("#", b"#")]


def no_readings(columns):
    """What is no reading of a line of so many columns for PARTS: shapes of 3, 2, 1 and 1 columns."""
    parts = [None, 1, "ab", (), (0,), (0, 2, 2), [0, 2], (-1, 2), (columns, 2), (columns - 1, 1), (columns - 2, 0),
             (columns + 1, 3), (0, -1), (0, 4), (True, 2), (0, True), (False, 2), (0, False), (0.0, 2),
             (0, 2.0), ("0", 2), (0, "i"), (None, 2), (0, None), ((0, 2),), (Hostile(), 2), (0, Hostile()),
             (10 ** 39, 2), (0, 10 ** 39), (0, ("i", ("#", "#"))), {0: 2}, {0, 2}, AlwaysEqual(), Hostile()]
    return [
        *others(), *numbers(), "", "ab", 0, [], [(0, 2)], [[0, 2]], {}, (0, 2), {(0, 2)}, iter([(0, 2)]), LINE,
        *[(part,) for part in parts], *[((0, 2), part) for part in parts],
        *[(part, (columns - 1, 2)) for part in parts],
        ((0, 2), (0, 2)), ((0, 0), (2, 1)), ((0, 1), (1, 2)), ((3, 2), (2, 2)), ((0, 2), (4, 2), (3, 2)),
        ((0, 0), (3, 0), (columns, 2)), ((4, 1), (5, 2)), ((0, 3), (0, 2)), ((0, 2),) * 1000,
    ]


class AllReadings(unittest.TestCase):

    def test_the_first_and_the_next_ones(self):
        for alphabet, line in small_lines():
            wanted = in_order(alphabet, line)
            with self.subTest(alphabet=alphabet.shapes(), line=line):
                self.assertEqual(read(alphabet, line), wanted[0])
                for k in (1, 2, 7, 20):
                    self.assertEqual(next_ones(alphabet, line, k), wanted[:k])

    def test_each_k(self):
        for alphabet in SMALL:
            line = made(alphabet.high(), 6, 3, 5)
            wanted = in_order(alphabet, line)
            for k in range(1, 21):
                self.assertEqual(next_ones(alphabet, line, k), wanted[:k])

    def test_fewer_where_there_are_no_more(self):
        self.assertEqual(next_ones(ONE, (".",), 20), [(0, ()), (1, ((0, 0),))])
        self.assertEqual(next_ones(ONE, ("#",), 2), [(0, ((0, 0),)), (1, ())])
        self.assertEqual(next_ones(ONE, ("#",), 1), [(0, ((0, 0),))])
        self.assertEqual(len(next_ones(ONE, full(1, 4), 20)), 16)
        self.assertEqual(len(next_ones(ONE, full(1, 5), 20)), 20)

    def test_no_window_stands_on_it(self):
        wide = Alphabet(1, [("w", ("#.......",))])
        for columns in range(1, 8):
            self.assertEqual(read(wide, full(1, columns)), (columns, ()))
            self.assertEqual(next_ones(wide, full(1, columns), 20), [(columns, ())])

    def test_ties(self):
        halves = Alphabet(1, [("a", ("#.",)), ("b", (".#",))])
        self.assertEqual(read(halves, ("##",)), (1, ((0, 0),)))
        self.assertEqual(next_ones(halves, ("##",), 20), [(1, ((0, 0),)), (1, ((0, 1),)), (2, ())])
        # The one without windows is ahead of one that costs as much.
        self.assertEqual(next_ones(Alphabet(1, [("a", ("##",))]), ("#.",), 9), [(1, ()), (1, ((0, 0),))])
        self.assertEqual(next_ones(Alphabet(2, [("a", ("#", "#"))]), ("..#", "..."), 3),
                         [(1, ()), (1, ((2, 0),)), (3, ((0, 0),))])
        # A shorter one is ahead of one that begins with it, and behind one that has a window sooner.
        self.assertEqual(next_ones(Alphabet(2, [("a", ("#", "#"))]), ("##", "#."), 3),
                         [(1, ((0, 0),)), (1, ((0, 0), (1, 0))), (3, ())])
        self.assertEqual(next_ones(Alphabet(2, [("a", ("#", "#"))]), ("##", ".#"), 3),
                         [(1, ((0, 0), (1, 0))), (1, ((1, 0),)), (3, ())])

    def test_asked_again(self):
        for alphabet, line in small_lines()[::5]:
            told = next_ones(alphabet, line, 9)
            kept = list(told)
            self.assertEqual(read(alphabet, line), read(alphabet, line))
            told.reverse()
            told.append(None)
            self.assertEqual(next_ones(alphabet, line, 9), kept)
            self.assertIsNot(next_ones(alphabet, line, 9), next_ones(alphabet, line, 9))

    def test_kinds(self):
        for pair in [read(PARTS, LINE), *next_ones(PARTS, LINE, 20)]:
            self.assertIs(type(pair), tuple)
            self.assertEqual([type(thing) for thing in pair], [int, tuple])
            self.assertTrue(all(type(window) is tuple and len(window) == 2 for window in pair[1]))
            self.assertTrue(all(type(number) is int for window in pair[1] for number in window))
        self.assertIs(type(next_ones(PARTS, LINE, 1)), list)

    def test_what_is_set_is_read(self):
        self.assertEqual(read(PARTS, set_line(PARTS, "u l")), (0, ((0, 0), (6, 1))))
        self.assertEqual(read(PARTS, set_line(PARTS, "u l", gap=0, blank=1)), (0, ((0, 0), (4, 1))))
        self.assertEqual(read(NEAR, set_line(NEAR, "cab")), (0, ((0, 2), (3, 0), (6, 1))))


class Costs(unittest.TestCase):

    def test_each_window(self):
        for alphabet, line in small_lines():
            for column, number in windows_of(alphabet, len(line[0])):
                picture = alphabet.shapes()[number][1]
                wanted = sum(line[row][column + at] != sign for row, signs in enumerate(picture)
                             for at, sign in enumerate(signs))
                self.assertEqual(fit(alphabet, line, column, number), wanted)

    def test_each_reading(self):
        for alphabet, line in small_lines()[::3]:
            for reading in all_readings(alphabet, len(line[0])):
                self.assertEqual(cost(alphabet, line, reading), counted(alphabet, line, reading))

    def test_the_sum_of_windows_and_white_columns(self):
        for alphabet, line in small_lines()[::7]:
            for reading in all_readings(alphabet, len(line[0]))[::5]:
                over = {column + at for column, number in reading for at in range(alphabet.wide(number))}
                white = sum(row[at] == "#" for row in line for at in range(len(row)) if at not in over)
                self.assertEqual(cost(alphabet, line, reading), white + sum(fit(alphabet, line, *w) for w in reading))

    def test_by_hand(self):
        self.assertEqual([fit(PARTS, LINE, 0, number) for number in range(4)], [0, 0, 0, 1])
        self.assertEqual(cost(PARTS, LINE, ()), 9)
        self.assertEqual(cost(PARTS, LINE, ((0, 0),)), 4)
        self.assertEqual(cost(PARTS, LINE, ((0, 0), (4, 1))), 1)
        self.assertEqual(cost(PARTS, LINE, ((0, 0), (4, 2), (5, 2))), 0)


class Drawn(unittest.TestCase):

    def test_by_hand(self):
        self.assertEqual(drawn(PARTS, 6, ((0, 0), (4, 2), (5, 2))), LINE)
        self.assertEqual(drawn(PARTS, 5, ((1, 3),)), (".....", ".#..."))
        self.assertEqual(drawn(PARTS, 1, ()), (".", "."))
        self.assertEqual(drawn(MARGINS, 9, ((1, 0), (4, 2))), ("..#.#..#.",))
        self.assertEqual(drawn(ONE, 60, ()), ("." * 60,))
        self.assertEqual(drawn(ONE, 60, tuple((column, 0) for column in range(60))), ("#" * 60,))

    def test_each_reading_costs_nothing(self):
        for alphabet in SMALL:
            for columns in (1, 2, 5):
                for reading in all_readings(alphabet, columns):
                    line = drawn(alphabet, columns, reading)
                    self.assertEqual((len(line), {len(row) for row in line}), (alphabet.high(), {columns}))
                    self.assertEqual((cost(alphabet, line, reading), counted(alphabet, line, reading)), (0, 0))
                    self.assertEqual(read(alphabet, line)[0], 0)

    def test_dots_turned_over(self):
        chance = random.Random(5)
        for alphabet in SMALL:
            places = [(row, column) for row in range(alphabet.high()) for column in range(5)]
            for reading in all_readings(alphabet, 5):
                line = drawn(alphabet, 5, reading)
                for many in (1, 2, chance.randint(0, len(places)), len(places)):
                    spoilt = with_turned(line, chance.sample(places, min(many, len(places))))
                    self.assertEqual(cost(alphabet, spoilt, reading), min(many, len(places)))


class Refused(unittest.TestCase):

    def test_no_line(self):
        for line in no_lines():
            refusal(self, NoLine, read, PARTS, line)
            for thing in (0, 99, -1, None, True, Hostile()):
                refusal(self, NoLine, fit, PARTS, line, 0, thing)
                refusal(self, NoLine, fit, PARTS, line, thing, thing)
            for reading in ((), ((0, 0),), None, Hostile()):
                refusal(self, NoLine, cost, PARTS, line, reading)
            for k in (1, 20, 0, 21, None, Hostile()):
                refusal(self, NoLine, next_ones, PARTS, line, k)

    def test_a_row_more_or_less(self):
        for alphabet in SMALL:
            for high in {*range(1, 11), 60} - {alphabet.high()}:
                refusal(self, NoLine, read, alphabet, full(high, 5))
                refusal(self, NoLine, cost, alphabet, full(high, 5, "."), ())

    def test_columns(self):
        for columns in (1, 59, 60):
            self.assertEqual(read(ONE, full(1, columns)), (0, tuple((column, 0) for column in range(columns))))
            self.assertEqual(cost(ONE, full(1, columns), ()), columns)
            self.assertEqual(fit(ONE, full(1, columns), columns - 1, 0), 0)
            self.assertEqual(next_ones(ONE, full(1, columns), 1), [read(ONE, full(1, columns))])
        for columns in (61, 62, 120, 121):
            refusal(self, NoLine, read, ONE, full(1, columns))
            refusal(self, NoLine, cost, ONE, full(1, columns), ())
            refusal(self, NoLine, fit, ONE, full(1, columns), 0, 0)
            refusal(self, NoLine, next_ones, ONE, full(1, columns), 1)

    def test_fit_of_no_shape(self):
        for thing in [*others(), *numbers(), 4, "0", [0], (0,), "i"]:
            for column in (0, 5, 6, -1, None, True, Hostile()):
                self.assertIs(refusal(self, NoShape, fit, PARTS, LINE, column, thing).at, thing)

    def test_fit_of_no_place(self):
        for number, last in enumerate((3, 4, 5, 5)):
            for column in [*others(), *numbers(), last + 1, "0", [0], (0,), 60]:
                refusal(self, NoPlace, fit, PARTS, LINE, column, number)
            self.assertEqual(type(fit(PARTS, LINE, last, number)), int)
        refusal(self, NoPlace, fit, PARTS, ("##", "##"), 0, 0)

    def test_no_reading(self):
        for thing in no_readings(6):
            refusal(self, NoReading, cost, PARTS, LINE, thing)
            refusal(self, NoReading, drawn, PARTS, 6, thing)

    def test_windows_within(self):
        for reading in all_readings(PARTS, 6):
            for columns in range(1, 7):
                within = all(column + PARTS.wide(number) <= columns for column, number in reading)
                if within:
                    self.assertEqual(len(drawn(PARTS, columns, reading)[0]), columns)
                else:
                    refusal(self, NoReading, drawn, PARTS, columns, reading)
                    refusal(self, NoReading, cost, PARTS, full(2, columns), reading)

    def test_too_many(self):
        for k in [*others(), *numbers(), 0, 21, 40, "1", [1]]:
            self.assertEqual(refusal(self, TooMany, next_ones, PARTS, LINE, k).most, 20)

    def test_drawn_of_no_width(self):
        for wide in [*others(), *numbers(), 0, 61, 120, "6", [6]]:
            for reading in ((), ((0, 0),), None, Hostile(), ((0, 0), (0, 0))):
                refusal(self, NoLine, drawn, PARTS, wide, reading)


class Unchanged(unittest.TestCase):

    def test_what_is_handed_in(self):
        for alphabet, line in small_lines()[::9]:
            shapes, rows = alphabet.shapes(), tuple(line)
            window, reading = [0, 0], ([0, 0],)
            read(alphabet, line)
            next_ones(alphabet, line, 20)
            refusal(self, NoReading, cost, alphabet, line, reading)
            refusal(self, NoReading, cost, alphabet, line, window)
            refusal(self, NoReading, drawn, alphabet, 5, reading)
            self.assertEqual((alphabet.shapes(), line, window, reading), (shapes, rows, [0, 0], ([0, 0],)))

    def test_the_same_for_equal_alphabets(self):
        for alphabet in (NARROW, ONE_SIGN):
            other = Alphabet(alphabet.high(), tuple(alphabet.shapes()))
            line = made(alphabet.high(), 9, 1, 5)
            self.assertEqual(read(alphabet, line), read(other, line))
            self.assertEqual(next_ones(alphabet, line, 20), next_ones(other, line, 20))


if __name__ == "__main__":
    unittest.main()
