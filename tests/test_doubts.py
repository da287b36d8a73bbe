"""Promises 5.1 and 0.2 (c): the first of all readings with a window and without it, doubts, and what is sure."""

import unittest

from dotread.alphabets import Alphabet, set_line
from dotread.doubts import doubts, sure, with_window, without_window
from dotread.errors import NoLine, NoPlace, NoShape
from dotread.words import Lexicon, cost_by, read_by, text_of
from tests.brute import (
    BROAD, MARGINS, NARROW, NEAR, ONE, ONE_SIGN, PARTS, in_order_by, lines_of, set_lines, spelled, windows_of,
)
from tests.test_reading import LINE, no_lines
from tests.test_weighed_by_words import ALIKE, LEXICONS
from tests.things import Hostile, full, made, numbers, others, refusal

CASES = [(NEAR, 6), (PARTS, 5), (ONE_SIGN, 5), (NARROW, 5), (MARGINS, 6), (ONE, 9), (BROAD, 10)]
PLAIN = Lexicon([], strange=0, blank=1)


def small_cases():
    """Triples (alphabet, lexicon, line) of which all readings are soon gone through."""
    found = []
    for at, (alphabet, columns) in enumerate(CASES):
        lines = [*lines_of(alphabet, columns), *set_lines(alphabet, columns), *lines_of(alphabet, 2)]
        for turn, line in enumerate(lines):
            found += [(alphabet, lexicon, line) for lexicon in LEXICONS[(at + turn) % 4::4]]
            found += [(alphabet, PLAIN, line)]
    return found


class AllReadings(unittest.TestCase):

    def test_each_window_of_the_line(self):
        for alphabet, lexicon, line in small_cases():
            wanted = in_order_by(alphabet, lexicon, line)
            with self.subTest(alphabet=alphabet.shapes(), words=lexicon.words(), line=line):
                for window in windows_of(alphabet, len(line[0])):
                    without = next(pair for pair in wanted if window not in pair[1])
                    having = next(pair for pair in wanted if window in pair[1])
                    self.assertEqual(without_window(alphabet, lexicon, line, *window), without)
                    self.assertEqual(with_window(alphabet, lexicon, line, *window), having)

    def test_doubts_and_sure(self):
        for alphabet, lexicon, line in small_cases():
            wanted = in_order_by(alphabet, lexicon, line)
            first, reading = wanted[0]
            dearer = [next(pair for pair in wanted if window not in pair[1]) for window in reading]
            told = [(cost - first, other) for cost, other in dearer]
            with self.subTest(alphabet=alphabet.shapes(), words=lexicon.words(), line=line):
                self.assertEqual(doubts(alphabet, lexicon, line), told)
                self.check_sure(alphabet, lexicon, line, reading, [more for more, _ in told])

    def check_sure(self, alphabet, lexicon, line, reading, mores):
        text = spelled(alphabet, reading, lexicon.blank)
        for least in sorted({0, 1, 1000, *[more + step for more in mores for step in (-1, 0, 1)]}):
            signs = iter(mores)
            wanted = "".join(" " if sign == " " else "?" if next(signs) < least else sign for sign in text)
            self.assertEqual(sure(alphabet, lexicon, line, least), wanted)


class ByHand(unittest.TestCase):

    def test_without_and_with(self):
        self.assertEqual(without_window(ONE, PLAIN, ("##",), 0, 0), (1, ((1, 0),)))
        self.assertEqual(with_window(ONE, PLAIN, ("##",), 0, 0), (0, ((0, 0), (1, 0))))
        self.assertEqual(with_window(ONE, PLAIN, ("..",), 1, 0), (1, ((1, 0),)))
        self.assertEqual(without_window(ONE, PLAIN, ("..",), 1, 0), (0, ()))
        self.assertEqual(without_window(ONE, PLAIN, ("#",), 0, 0), (1, ()))

    def test_where_none_stands_there(self):
        # All that can be without the only window is the line left white.
        wide = Alphabet(1, [("w", ("########",))])
        self.assertEqual(without_window(wide, PLAIN, full(1, 8), 0, 0), (8, ()))
        self.assertEqual(with_window(wide, PLAIN, full(1, 8, "."), 0, 0), (8, ((0, 0),)))

    def test_ties_of_a_reading_that_ends_and_one_that_goes_on(self):
        # One dot of two: the window costs as much as white does.
        bar = Alphabet(2, [("i", ("#", "#"))])
        line = ("###", "..#")
        self.assertEqual(without_window(bar, PLAIN, line, 2, 0), (4, ()))
        self.assertEqual(without_window(bar, PLAIN, line, 1, 0), (2, ((0, 0), (2, 0))))
        self.assertEqual(without_window(bar, PLAIN, line, 0, 0), (2, ((1, 0), (2, 0))))
        self.assertEqual(doubts(bar, PLAIN, line), [(0, ((1, 0), (2, 0))), (0, ((0, 0), (2, 0))), (2, ())])

    def test_no_dots(self):
        for alphabet, columns in CASES:
            line = full(alphabet.high(), columns, ".")
            for lexicon in LEXICONS:
                self.assertEqual(doubts(alphabet, lexicon, line), [])
                self.assertEqual(sure(alphabet, lexicon, line, 9), "")
                for window in windows_of(alphabet, columns):
                    self.assertEqual(without_window(alphabet, lexicon, line, *window), (0, ()))
                    cost, reading = with_window(alphabet, lexicon, line, *window)
                    self.assertEqual((window in reading, cost > 0), (True, True))

    def test_a_line_too_narrow_for_any_window(self):
        wide = Alphabet(1, [("w", ("########",))])
        self.assertEqual(doubts(wide, PLAIN, full(1, 7)), [])
        self.assertEqual(sure(wide, PLAIN, full(1, 7), 1000), "")

    def test_sure(self):
        line = set_line(NEAR, "ab a")
        lexicon = Lexicon(["ab"], strange=2)
        self.assertEqual(text_of(NEAR, read_by(NEAR, lexicon, line)[1]), "ab a")
        mores = [more for more, _ in doubts(NEAR, lexicon, line)]
        self.assertEqual(mores, [3, 3, 1])
        told = [sure(NEAR, lexicon, line, least) for least in range(5)]
        self.assertEqual(told, ["ab a", "ab a", "ab ?", "ab ?", "?? ?"])
        self.assertEqual(sure(NEAR, lexicon, line, -1), "ab a")

    def test_by_the_lexicons_blank(self):
        line = ("#.#...#",)
        for blank, text in ((1, "? ? ?"), (2, "?? ?"), (3, "?? ?"), (4, "???")):
            lexicon = Lexicon([], strange=0, blank=blank)
            self.assertEqual(sure(ONE, lexicon, line, 99), text)
            self.assertEqual(sure(ONE, lexicon, line, 1), text.replace("?", "a"))

    def test_a_sign_that_is_a_question_itself(self):
        marks = Alphabet(1, [("?", ("#",)), ("b", ("#.#",))])
        line = ("#..#.#",)
        self.assertEqual(read_by(marks, PLAIN, line), (0, ((0, 0), (3, 0), (5, 0))))
        for least in range(4):
            self.assertEqual(sure(marks, PLAIN, line, least), "? ? ?")
        near = Lexicon(["?b"], strange=5, blank=3)
        self.assertEqual(doubts(marks, near, line), [(2, ((1, 0), (3, 1))), (2, ((0, 0), (1, 1)))])
        self.assertEqual([sure(marks, near, line, least) for least in (0, 2, 3)], ["?b", "?b", "??"])


class Told(unittest.TestCase):

    def test_costs_are_those_of_the_readings(self):
        for alphabet, lexicon, line in small_cases()[::5]:
            for window in windows_of(alphabet, len(line[0])):
                for tell in (without_window, with_window):
                    cost, reading = tell(alphabet, lexicon, line, *window)
                    self.assertEqual(cost, cost_by(alphabet, lexicon, line, reading))

    def test_one_of_both_is_the_first_of_all(self):
        for alphabet, lexicon, line in small_cases()[::3]:
            first = read_by(alphabet, lexicon, line)
            for window in windows_of(alphabet, len(line[0])):
                told = (without_window(alphabet, lexicon, line, *window), with_window(alphabet, lexicon, line, *window))
                self.assertEqual(min(told), first)

    def test_kinds_and_new_lists(self):
        told = doubts(PARTS, LEXICONS[3], LINE)
        kept = list(told)
        self.assertIs(type(told), list)
        self.assertTrue(all(type(pair) is tuple and [type(thing) for thing in pair] == [int, tuple] for pair in told))
        told.clear()
        self.assertEqual(doubts(PARTS, LEXICONS[3], LINE), kept)
        for tell in (without_window, with_window):
            self.assertEqual([type(thing) for thing in tell(PARTS, LEXICONS[3], LINE, 0, 0)], [int, tuple])


class Refused(unittest.TestCase):

    def test_no_line(self):
        lexicon = Lexicon(ALIKE)
        for line in no_lines():
            for tell in (without_window, with_window):
                for thing in (0, 99, -1, None, True, Hostile()):
                    refusal(self, NoLine, tell, PARTS, lexicon, line, 0, thing)
                    refusal(self, NoLine, tell, PARTS, lexicon, line, thing, thing)
            refusal(self, NoLine, doubts, PARTS, lexicon, line)
            refusal(self, NoLine, sure, PARTS, lexicon, line, 1)

    def test_no_shape_whatever_the_column_is(self):
        for tell in (without_window, with_window):
            for thing in [*others(), *numbers(), 4, "0", [0], (0,), "i"]:
                for column in (0, 5, 6, -1, None, True, Hostile()):
                    self.assertIs(refusal(self, NoShape, tell, PARTS, PLAIN, LINE, column, thing).at, thing)

    def test_no_place(self):
        for tell in (without_window, with_window):
            for number, last in enumerate((3, 4, 5, 5)):
                for column in [*others(), *numbers(), last + 1, "0", [0], (0,), 60]:
                    refusal(self, NoPlace, tell, PARTS, PLAIN, LINE, column, number)
                self.assertEqual(len(tell(PARTS, PLAIN, LINE, last, number)), 2)

    def test_nothing_is_changed(self):
        lexicon, line = Lexicon(ALIKE), made(2, 6, 1)
        doubts(PARTS, lexicon, line)
        refusal(self, NoPlace, without_window, PARTS, lexicon, line, 6, 0)
        self.assertEqual((lexicon, line, len(PARTS)), (Lexicon(ALIKE), made(2, 6, 1), 4))


if __name__ == "__main__":
    unittest.main()
