"""Promises 4.1 and 0.2 (a): readings weighed by dots and by words together."""

import unittest

from dotread.alphabets import set_line
from dotread.errors import NoLine, NoReading, TooMany
from dotread.reading import cost, next_ones, read
from dotread.words import Lexicon, cost_by, next_by, read_by, text_of
from tests.brute import (
    BROAD, MARGINS, NARROW, NEAR, ONE, ONE_SIGN, PARTS, all_readings, counted_by, in_order_by, lines_of, set_lines,
)
from tests.test_reading import LINE, no_lines, no_readings
from tests.things import Hostile, full, made, numbers, others, refusal

ALIKE = ["a", "ab", "abc", "abb", "b", "ba", "cab", "??"]
LEXICONS = [Lexicon(words, strange=strange, blank=blank)
            for words, strange, blank in (
                ([], 2, 3), ([], 0, 1), ([], 99, 2), (ALIKE, 2, 1), (ALIKE, 1, 2), (ALIKE, 0, 2), (ALIKE, 99, 3),
                (["ab", "abc"], 1, 3), (["bb", "aa", "?a"], 3, 1), (["u", "li", "ui", "..", "l.i"], 1, 1),
                (["i", "uli", "ll"], 2, 2), (["zz", "a~", "aaa"], 2, 2), (["w", "ii", "wi"], 1, 6))]
CASES = [(NEAR, 6), (PARTS, 5), (ONE_SIGN, 5), (NARROW, 5), (MARGINS, 6), (ONE, 9), (BROAD, 10)]


class AllReadings(unittest.TestCase):

    def check(self, alphabet, lexicon, line, many=(1, 6, 20)):
        wanted = in_order_by(alphabet, lexicon, line)
        with self.subTest(alphabet=alphabet.shapes(), words=lexicon.words(), line=line):
            self.assertEqual(read_by(alphabet, lexicon, line), wanted[0])
            for k in many:
                self.assertEqual(next_by(alphabet, lexicon, line, k), wanted[:k])

    def test_any_lines(self):
        for at, (alphabet, columns) in enumerate(CASES):
            for turn, line in enumerate(lines_of(alphabet, columns)):
                for lexicon in LEXICONS[(at + turn) % 3::3]:
                    self.check(alphabet, lexicon, line)

    def test_lines_set_and_spoilt(self):
        for at, (alphabet, columns) in enumerate(CASES):
            for turn, line in enumerate(set_lines(alphabet, columns)):
                for lexicon in LEXICONS[(at + turn) % 4::4]:
                    self.check(alphabet, lexicon, line)

    def test_narrow_lines(self):
        for alphabet, _ in CASES:
            for columns in (1, 2):
                for line in lines_of(alphabet, columns):
                    for lexicon in LEXICONS[::3]:
                        self.check(alphabet, lexicon, line, range(1, 21))

    def test_blanks(self):
        for blank in range(1, 7):
            for words in ([], ["a"], ["aa", "aaaa"], ["a", "aaa"]):
                for strange in (0, 1, 2, 99):
                    lexicon = Lexicon(words, strange=strange, blank=blank)
                    for line in (full(1, 9), full(1, 9, "."), ("#......#.",), ("#.#....#.",), ("#" + "." * 5 + "###",)):
                        self.check(ONE, lexicon, line, (9,))

    def test_eight_signs_and_nine(self):
        lexicon = Lexicon(["a" * 8], strange=3, blank=2)
        self.assertEqual(read_by(ONE, lexicon, full(1, 8)), (0, tuple((column, 0) for column in range(8))))
        self.assertEqual(read_by(ONE, lexicon, full(1, 9)), (1, tuple((column, 0) for column in range(8))))
        nine = tuple((column, 0) for column in range(9))
        self.assertEqual(cost_by(ONE, lexicon, full(1, 9), nine), 3)
        for strange in (0, 1, 2, 3, 99):
            for columns in (8, 9, 10):
                line = full(1, columns)
                self.check(ONE, Lexicon(["a" * 8], strange=strange, blank=1), line)
                self.check(ONE, Lexicon(["a" * 8, "aaa", "aaaa"], strange=strange, blank=2), line)

    def test_the_words_themselves_decide(self):
        line = ("##.", "#.#")
        self.assertEqual(read(NEAR, line)[1], ((0, 1),))
        self.assertEqual(read_by(NEAR, Lexicon(["a"], strange=2), line), (2, ((0, 0),)))
        self.assertEqual(read_by(NEAR, Lexicon(["a"], strange=1), line), (2, ((0, 0),)))
        self.assertEqual(read_by(NEAR, Lexicon(["c"], strange=9), line), (3, ((0, 2),)))
        self.assertEqual(read_by(NEAR, Lexicon(["c"], strange=0), line), (1, ((0, 1),)))

    def test_a_strange_word_that_costs_nothing(self):
        for alphabet, columns in CASES:
            for line in lines_of(alphabet, columns):
                for words in ([], ALIKE):
                    for blank in (1, 6):
                        lexicon = Lexicon(words, strange=0, blank=blank)
                        self.assertEqual(read_by(alphabet, lexicon, line), read(alphabet, line))
                        self.assertEqual(next_by(alphabet, lexicon, line, 20), next_ones(alphabet, line, 20))

    def test_words_that_no_shape_spells(self):
        for line in lines_of(NEAR, 5):
            lexicon = Lexicon(["x", "ax", "xa", "~a", "abx"], strange=2, blank=2)
            self.assertEqual(next_by(NEAR, lexicon, line, 20), next_by(NEAR, Lexicon([], strange=2, blank=2), line, 20))

    def test_the_usual_strange_and_blank(self):
        usual, told = Lexicon(["ab"]), Lexicon(["ab"], strange=2, blank=3)
        for line in lines_of(NEAR, 6):
            self.assertEqual(next_by(NEAR, usual, line, 20), next_by(NEAR, told, line, 20))
        self.assertEqual(cost_by(ONE, Lexicon([]), full(1, 8, "."), ((0, 0), (3, 0), (7, 0))), 7)

    def test_asked_again(self):
        for line in lines_of(PARTS, 5):
            told = next_by(PARTS, LEXICONS[9], line, 9)
            kept = list(told)
            self.assertEqual(read_by(PARTS, LEXICONS[9], line), kept[0])
            told.clear()
            self.assertEqual(next_by(PARTS, LEXICONS[9], line, 9), kept)

    def test_a_lexicon_kept_and_its_list_changed(self):
        words = ["ab", "b"]
        lexicon = Lexicon(words, strange=3, blank=2)
        line = made(2, 6, 4, 6)
        before = next_by(NEAR, lexicon, line, 20)
        words.append("a")
        lexicon.words().append("c")
        self.assertEqual(next_by(NEAR, lexicon, line, 20), before)


class Costs(unittest.TestCase):

    def test_each_reading(self):
        for at, (alphabet, _) in enumerate(CASES):
            for lexicon in LEXICONS:
                line = made(alphabet.high(), 5, at, 5)
                for reading in all_readings(alphabet, 5):
                    wanted = counted_by(alphabet, lexicon, line, reading)
                    self.assertEqual(cost_by(alphabet, lexicon, line, reading), wanted)

    def test_by_hand(self):
        line = set_line(NEAR, "ab a ab")
        reading = read(NEAR, line)[1]
        self.assertEqual((text_of(NEAR, reading), cost(NEAR, line, reading)), ("ab a ab", 0))
        for words, strange_ones in (([], 3), (["a"], 2), (["ab"], 1), (["ab", "a"], 0), (["ab a"[:2], "b", "abc"], 1)):
            for strange in (0, 1, 2, 99):
                lexicon = Lexicon(words, strange=strange)
                self.assertEqual(cost_by(NEAR, lexicon, line, reading), strange * strange_ones)
                self.assertEqual(cost_by(NEAR, lexicon, line, ()), cost(NEAR, line, ()))

    def test_words_by_the_lexicons_blank(self):
        reading = ((0, 0), (3, 0), (9, 0))
        for blank, words in ((1, 3), (2, 3), (3, 2), (5, 2), (6, 1), (20, 1)):
            none, one = Lexicon([], strange=9, blank=blank), Lexicon(["a"], strange=9, blank=blank)
            self.assertEqual(cost_by(ONE, none, full(1, 10, "."), reading), 3 + 9 * words)
            self.assertEqual(cost_by(ONE, one, full(1, 10, "."), reading), 3 + 9 * {3: 0, 2: 1, 1: 1}[words])


class Refused(unittest.TestCase):

    def test_no_line(self):
        for lexicon in (Lexicon([]), Lexicon(ALIKE)):
            for line in no_lines():
                refusal(self, NoLine, read_by, PARTS, lexicon, line)
                for thing in ((), ((0, 0),), None, Hostile()):
                    refusal(self, NoLine, cost_by, PARTS, lexicon, line, thing)
                for k in (1, 20, 0, 21, None, Hostile()):
                    refusal(self, NoLine, next_by, PARTS, lexicon, line, k)

    def test_no_reading(self):
        for thing in no_readings(6):
            refusal(self, NoReading, cost_by, PARTS, Lexicon(ALIKE), LINE, thing)
        refusal(self, NoReading, cost_by, ONE, Lexicon([]), full(1, 5), ((5, 0),))
        self.assertEqual(cost_by(ONE, Lexicon([]), full(1, 6), ((5, 0),)), 7)

    def test_too_many(self):
        for k in [*others(), *numbers(), 0, 21, 40, "1", [1]]:
            self.assertEqual(refusal(self, TooMany, next_by, PARTS, Lexicon(ALIKE), LINE, k).most, 20)

    def test_nothing_is_changed(self):
        lexicon, reading = Lexicon(ALIKE), ([0, 0],)
        refusal(self, NoReading, cost_by, PARTS, lexicon, LINE, reading)
        refusal(self, TooMany, next_by, PARTS, lexicon, LINE, 21)
        self.assertEqual((lexicon, reading), (Lexicon(ALIKE), ([0, 0],)))


if __name__ == "__main__":
    unittest.main()
