"""Promises 3.1, 4.1 and 5.1 at all bounds: wide lines, many shapes near to one another, and a short time."""

import random
import time
import unittest

from dotread.alphabets import Alphabet
from dotread.dots import with_turned
from dotread.doubts import doubts, sure, with_window, without_window
from dotread.reading import cost, drawn, fit, next_ones, read
from dotread.words import Lexicon, cost_by, next_by, read_by
from tests.brute import NARROW, NEAR, PARTS, Walk, counted, windows_of
from tests.things import full, made

SIGNS = "abcdefghijklmnop"
EIGHTS = ["abcdefgh", "abcdefgp", "bcdefgha", "ponmlkji", "hgfedcba"]
ALIKE = ["a", "ab", "abc", "abcd", "abcde", "abcdef", "b", "ba", "bab", "babc", "c", "p", "pp", "ppp", "ac", "ap"]
LEXICONS = [Lexicon(words, strange=strange, blank=blank)
            for words in ([], EIGHTS, ALIKE) for strange in (0, 2, 99) for blank in (1, 6)]
LONGEST = 1.0


def distinct(high, wides, seed, of_ten=5):
    """An alphabet with a shape of any dots for each of these widths."""
    shapes = []
    for wide in wides:
        while not any("#" in row for row in made(high, wide, seed, of_ten)) or made(high, wide, seed, of_ten) in shapes:
            seed += 1
        shapes.append(made(high, wide, seed, of_ten))
    return Alphabet(high, list(zip(SIGNS, shapes)))


def near(wide):
    """Sixteen shapes of nine rows of which each lacks two dots of all."""
    chance = random.Random(wide)
    places = [(row, column) for row in range(9) for column in range(wide)]
    shapes = []
    while len(shapes) < 16:
        shape = with_turned(full(9, wide), chance.sample(places, 2))
        if shape not in shapes:
            shapes.append(shape)
    return Alphabet(9, list(zip(SIGNS, shapes)))


WIDEST = [distinct(9, [1] * 16, 1), distinct(9, [8] * 16, 2), distinct(9, [1, 2, 3, 4, 5, 6, 7, 8] * 2, 3),
          distinct(9, [1] + [8] * 15, 4), near(1), near(2), near(8)]


def lines():
    """Lines of nine rows and sixty columns: any dots, no dots, all dots."""
    return [made(9, 60, 1, 5), made(9, 60, 2, 2), made(9, 60, 3, 8), full(9, 60), full(9, 60, ".")]


def any_reading(alphabet, columns, seed):
    """A reading of a line of so many columns."""
    chance = random.Random(seed)
    reading, column = [], 0
    while True:
        column += chance.choice((0, 0, 1, 2, 7))
        number = chance.randrange(len(alphabet))
        if column + alphabet.wide(number) > columns:
            return tuple(reading)
        reading.append((column, number))
        column += alphabet.wide(number)


class Walked(unittest.TestCase):
    """Readings of wide lines against those found another way."""

    def test_the_first_of_all(self):
        for alphabet in WIDEST:
            for line in lines():
                self.assertEqual(read(alphabet, line), Walk(alphabet, line).first())

    def test_the_next_ones(self):
        for alphabet in WIDEST:
            for line in lines():
                told = next_ones(alphabet, line, 20)
                self.assertEqual(told, Walk(alphabet, line).first_ones(20, told[-1][0]))

    def test_by_words(self):
        for at, alphabet in enumerate(WIDEST):
            for turn, line in enumerate(lines()):
                lexicon = LEXICONS[(at * 5 + turn) % len(LEXICONS)]
                self.assertEqual(read_by(alphabet, lexicon, line), Walk(alphabet, line, lexicon).first())

    def test_the_next_ones_by_words(self):
        for alphabet in (NEAR, PARTS, NARROW):
            for seed, words in enumerate((["ab", "abc", "ca"], ["ui", "l.", "uli"], ["?a?", "b", "ab"])):
                line = made(alphabet.high(), 24, seed, 5)
                for strange in (0, 1, 4):
                    lexicon = Lexicon(words, strange=strange, blank=2)
                    told = next_by(alphabet, lexicon, line, 20)
                    self.assertEqual(told, Walk(alphabet, line, lexicon).first_ones(20, told[-1][0]))

    def test_without_and_with(self):
        for at, alphabet in enumerate(WIDEST):
            line = lines()[at % 4]
            lexicon = LEXICONS[(at * 7 + 1) % len(LEXICONS)]
            reading = read_by(alphabet, lexicon, line)[1]
            others = windows_of(alphabet, 60)
            middle = len(reading) // 2
            for window in (*reading[:1], *reading[middle:middle + 1], *reading[-1:], others[at * 101], others[-1]):
                self.assertEqual(without_window(alphabet, lexicon, line, *window),
                                 Walk(alphabet, line, lexicon, without=window).first())
                self.assertEqual(with_window(alphabet, lexicon, line, *window),
                                 Walk(alphabet, line, lexicon, having=window).first())

    def test_doubts(self):
        for at, alphabet in enumerate(WIDEST[::2]):
            line, lexicon = lines()[at], LEXICONS[at * 4 + 1]
            first, reading = read_by(alphabet, lexicon, line)
            told = doubts(alphabet, lexicon, line)
            self.assertEqual(len(told), len(reading))
            for window, (more, other) in zip(reading[::8], told[::8]):
                self.assertEqual((first + more, other), Walk(alphabet, line, lexicon, without=window).first())


class AtAllBounds(unittest.TestCase):

    def test_each_high_and_width(self):
        for high in range(1, 10):
            for wide in range(1, 9):
                alphabet = Alphabet(high, [("a", full(high, wide)), ("b", full(high, wide % 8 + 1))])
                for line in (full(high, 60), made(high, 60, wide, 8), full(high, wide)):
                    self.assertEqual(read(alphabet, line), Walk(alphabet, line).first())
                self.assertEqual(fit(alphabet, full(high, 60), 60 - wide, 0), 0)
                self.assertEqual(fit(alphabet, full(high, 60, "."), 60 - wide, 0), high * wide)

    def test_drawn_and_turned_over(self):
        for alphabet in WIDEST:
            for seed in range(5):
                reading = any_reading(alphabet, 60, seed)
                line = drawn(alphabet, 60, reading)
                self.assertEqual((cost(alphabet, line, reading), counted(alphabet, line, reading)), (0, 0))
                self.assertEqual(read(alphabet, line)[0], 0)
                places = [(row, column) for row in range(9) for column in range(60)]
                for many in (1, 10, 540):
                    spoilt = with_turned(line, random.Random(seed).sample(places, many))
                    self.assertEqual(cost(alphabet, spoilt, reading), many)
                    self.assertLessEqual(read(alphabet, spoilt)[0], many)

    def test_what_is_set_is_read(self):
        alphabet = distinct(9, [5, 6, 7, 8] * 4, 5)
        for seed in range(5):
            reading = any_reading(alphabet, 60, seed)
            spoilt = with_turned(drawn(alphabet, 60, reading), [(seed, seed * 9), (8 - seed, 59 - seed)])
            self.assertEqual(read(alphabet, spoilt), (2, reading))

    def test_costs(self):
        for alphabet in WIDEST:
            for seed, line in enumerate(lines()):
                reading = any_reading(alphabet, 60, seed)
                self.assertEqual(cost(alphabet, line, reading), counted(alphabet, line, reading))
                for column, number in windows_of(alphabet, 60)[::37]:
                    part = tuple(row[column:column + alphabet.wide(number)] for row in line)
                    self.assertEqual(fit(alphabet, line, column, number), counted(alphabet, part, ((0, number),)))

    def test_costs_of_what_is_told(self):
        for at, alphabet in enumerate(WIDEST):
            for line in lines():
                lexicon = LEXICONS[at * 2 + 1]
                told = next_by(alphabet, lexicon, line, 20)
                self.assertEqual(told, sorted(set(told)))
                self.assertEqual(len(told), 20)
                self.assertEqual([cost_by(alphabet, lexicon, line, reading) for _, reading in told],
                                 [least for least, _ in told])


class ShortTime(unittest.TestCase):

    def timed(self, call, *rest):
        start = time.process_time()
        told = call(*rest)
        self.assertLess(time.process_time() - start, LONGEST)
        return told

    def test_dots_alone(self):
        for alphabet in WIDEST:
            for line in lines():
                first = self.timed(read, alphabet, line)
                self.assertEqual(self.timed(next_ones, alphabet, line, 20)[0], first)

    def test_words_and_doubts(self):
        for at, alphabet in enumerate(WIDEST):
            for turn, line in enumerate(lines()):
                for lexicon in LEXICONS[1::2][(at + turn) % 4::4]:
                    least, reading = self.timed(read_by, alphabet, lexicon, line)
                    self.assertEqual(self.timed(next_by, alphabet, lexicon, line, 20)[0], (least, reading))
                    self.assertEqual(len(self.timed(doubts, alphabet, lexicon, line)), len(reading))
                    self.timed(sure, alphabet, lexicon, line, 3)
                    self.timed(without_window, alphabet, lexicon, line, 30, 0)
                    self.timed(with_window, alphabet, lexicon, line, 30, 0)


if __name__ == "__main__":
    unittest.main()
