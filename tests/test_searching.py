"""Promises 0.2 (d) and 9.1: where a word may stand in a line, and the first reading that has a text."""

import functools
import itertools
import random
import time
import unittest

from dotread.alphabets import Alphabet, set_line
from dotread.errors import NoLine, NoWord, TooMany
from dotread.searching import best_as, places
from dotread.words import Lexicon, cost_by, next_by, read_by, text_of, words_of
from tests.brute import MARGINS, NARROW, NEAR, ONE, ONE_SIGN, PARTS, in_order_by, lines_of, set_lines, spelled
from tests.things import full, made, numbers, others, refusal

QUERY = Alphabet(1, [("?", ("#",)), ("a", ("##",)), ("b", ("#.#",))])
CASES = [
    (NEAR, ["a", "ab"], 2, 2), (NEAR, [], 0, 1), (PARTS, ["u", "li", "il"], 3, 3), (ONE_SIGN, ["ab", "ba"], 1, 2),
    (NARROW, ["?", "a?", "b"], 2, 3), (MARGINS, ["a", "cc"], 2, 1), (ONE, ["aa"], 5, 2), (QUERY, ["?", "a?", "??"], 2, 2),
    (ONE_SIGN, ["aa", "a"], 99, 6), (NEAR, ["abc"], 0, 3),
]
PATTERNS = ["a", "?", "b", "ab", "a?", "?a", "??", "l?", "u", "x", "?x", "aaa", "???", "a?b", "????????"]


def whole_words(alphabet, reading, blank):
    """The words of a reading, by the column at which each begins."""
    columns = [column for column, _ in reading]
    words = {}
    for column, number in reading:
        sign, picture = alphabet.shapes()[number]
        if not words or column - edge >= blank:
            start = column
            words[start] = ""
        words[start] += sign
        edge = column + len(picture[0])
    assert set(words) <= set(columns)
    return words


def fits(pattern, word):
    """Whether a word fits a pattern."""
    return len(word) == len(pattern) and all(wanted in ("?", sign) for wanted, sign in zip(pattern, word))


@functools.lru_cache(maxsize=None)
def cases():
    """(alphabet, lexicon, line, all readings in order) of lines small enough to go through all their readings."""
    found = []
    for alphabet, words, strange, blank in CASES:
        lexicon = Lexicon(words, strange=strange, blank=blank)
        most = 8 if len(alphabet) < 4 else 6
        lines = [line for columns in (1, most - 2, most) for line in lines_of(alphabet, columns)[1:5:2]]
        for line in lines + set_lines(alphabet, most)[::2]:
            found.append((alphabet, lexicon, line, in_order_by(alphabet, lexicon, line)))
    return found


class Places(unittest.TestCase):

    def told(self, ordered, words, pattern):
        """What places is to tell for the greatest bound, all readings gone through; words are those of each."""
        found = {}
        for (cost, reading), begun in zip(ordered, words):
            for column, word in begun.items():
                if column not in found and fits(pattern, word):
                    found[column] = (cost - ordered[0][0], column, reading)
        return sorted(place for place in found.values() if place[0] <= 99)

    def test_all_readings_gone_through(self):
        some = 0
        for alphabet, lexicon, line, ordered in cases():
            words = [whole_words(alphabet, reading, lexicon.blank) for _, reading in ordered]
            for pattern in PATTERNS:
                wanted = self.told(ordered, words, pattern)
                for within in (0, 4, 99):
                    found = places(alphabet, lexicon, line, pattern, within=within)
                    self.assertEqual(found, [place for place in wanted if place[0] <= within])
                    some += len(found) > 1
                self.assertEqual(places(alphabet, lexicon, line, pattern), [place for place in wanted if place[0] <= 4])
        self.assertGreater(some, 200)

    def test_each_bound(self):
        lexicon = Lexicon(["ab", "b"], strange=3, blank=2)
        line = ("##.#.#..##", "##.##...#.")
        ordered = in_order_by(NEAR, lexicon, line)
        wanted = self.told(ordered, [whole_words(NEAR, reading, 2) for _, reading in ordered], "?b")
        for within in (*range(12), 98, 99):
            found = places(NEAR, lexicon, line, "?b", within=within)
            self.assertEqual(found, [place for place in wanted if place[0] <= within])
        self.assertEqual(len({more for more, _, _ in wanted} & set(range(12))), 4)

    def test_whole_words_only(self):
        line = set_line(PARTS, "li l", blank=3)
        lexicon = Lexicon([], strange=0)
        self.assertEqual([(more, column) for more, column, _ in places(PARTS, lexicon, line, "l", within=0)], [(0, 7)])
        self.assertEqual([(more, column) for more, column, _ in places(PARTS, lexicon, line, "li", within=0)], [(0, 0)])
        self.assertEqual(places(PARTS, lexicon, line, "i", within=0), [])
        joined = Lexicon([], strange=0, blank=4)
        self.assertEqual(places(PARTS, joined, line, "l", within=0), [])
        self.assertEqual([column for _, column, _ in places(PARTS, joined, line, "li?", within=0)], [0])
        parted = Lexicon([], strange=0, blank=1)
        self.assertEqual([column for _, column, _ in places(PARTS, parted, line, "l", within=0)], [0, 7])

    def test_a_query_among_the_signs(self):
        line = set_line(QUERY, "?a b", gap=1, blank=3)
        lexicon = Lexicon(["?a"], strange=2)
        first = read_by(QUERY, lexicon, line)[1]
        self.assertEqual(text_of(QUERY, first, blank=3), "?a ?a")
        self.assertEqual(places(QUERY, lexicon, line, "?a", within=0), [(0, 0, first), (0, 7, first)])
        self.assertEqual(places(QUERY, lexicon, line, "??", within=0), [(0, 0, first), (0, 7, first)])
        self.assertEqual([place[:2] for place in places(QUERY, lexicon, line, "?", within=2)], [(1, 7), (2, 9)])

    def test_wide_lines(self):
        # The first reading's own words are told for 0 more, whatever the line; what is told has the word there.
        for seed in range(12):
            alphabet, lexicon = (PARTS, Lexicon(["li", "u", "uli"], strange=2)) if seed % 2 else wide_case(seed)
            line = made(alphabet.high(), 60, seed, of_ten=4)
            least, reading = read_by(alphabet, lexicon, line)
            for column, word in whole_words(alphabet, reading, lexicon.blank).items():
                if len(word) <= 8:
                    self.assertIn((0, column, reading), places(alphabet, lexicon, line, word, within=0))
            for pattern in ("?", "??", "????", "u?", "li"):
                self.check_told(alphabet, lexicon, line, pattern, least)

    def check_told(self, alphabet, lexicon, line, pattern, least):
        near = next_by(alphabet, lexicon, line, 20)
        found = places(alphabet, lexicon, line, pattern, within=20)
        self.assertEqual(found, sorted(found))
        columns = [column for _, column, _ in found]
        self.assertEqual(len(columns), len(set(columns)))
        for more, column, reading in found:
            self.assertTrue(fits(pattern, whole_words(alphabet, reading, lexicon.blank)[column]))
            self.assertEqual(cost_by(alphabet, lexicon, line, reading), least + more)
            ahead = [other for cost, other in near if (cost, other) < (least + more, reading)]
            self.assertFalse([other for other in ahead
                              if fits(pattern, whole_words(alphabet, other, lexicon.blank).get(column, ""))])
        for cost, other in near:
            for column, word in whole_words(alphabet, other, lexicon.blank).items():
                if fits(pattern, word) and cost - least <= 20:
                    self.assertIn(column, columns)

    def test_told_anew(self):
        line, lexicon = set_line(NEAR, "ab"), Lexicon(["ab"])
        found = places(NEAR, lexicon, line, "ab", within=3)
        found.clear()
        self.assertEqual(places(NEAR, lexicon, line, "ab", within=3), [(0, 0, ((0, 0), (3, 1)))])
        self.assertEqual(places(pattern="ab", line=line, lexicon=lexicon, alphabet=NEAR, within=0)[0][:2], (0, 0))
        with self.assertRaises(TypeError):
            places(NEAR, lexicon, line, "ab", 4)

    def test_refusals(self):
        line, lexicon = set_line(NEAR, "ab"), Lexicon(["ab"])
        for thing in [*others(), *numbers(), full(3, 3), full(2, 61), list(line)]:
            refusal(self, NoLine, places, NEAR, lexicon, thing, None, within=None)
        wrong = [*others(), *numbers(), " ", "a b", "a" * 9, "a\n", ["a"], "?" * 9, "\x7f"]
        for thing in wrong:
            if type(thing) is not str or thing not in ("ab",):
                found = refusal(self, NoWord, places, NEAR, lexicon, line, thing, within=None)
                self.assertIs(found.word, thing)
        for thing in [*others(), *numbers(), 100]:
            self.assertEqual(refusal(self, TooMany, places, NEAR, lexicon, line, "ab", within=thing).most, 99)
        self.assertEqual(len(places(NEAR, lexicon, line, "?" * 8, within=99)), 0)


def wide_case(seed):
    """An alphabet of sixteen shapes, and a lexicon of forty signs together."""
    chance = random.Random(seed)
    shapes = [("abcdefghijklmnop"[at], made(9, chance.randint(1, 4), seed * 50 + at, of_ten=5)) for at in range(16)]
    words = sorted({"".join(chance.choice("abcdefghijklmnop") for _ in range(3)) for _ in range(13)})
    return Alphabet(9, shapes), Lexicon(words, strange=3, blank=6)


class BestAs(unittest.TestCase):

    def test_the_text_of_each_reading(self):
        for alphabet, lexicon, line, ordered in cases():
            first = {}
            for cost, reading in ordered:
                first.setdefault(spelled(alphabet, reading, lexicon.blank), (cost, reading))
            for text, pair in list(first.items())[::max(1, len(first) // 60)]:
                self.assertEqual(best_as(alphabet, lexicon, line, text), pair)
            self.assertEqual(best_as(alphabet, lexicon, line, ""), first[""])
            self.assertEqual(best_as(alphabet, lexicon, line, ""), (sum(row.count("#") for row in line), ()))
            for text in ("a", "a a", "ab b", "x", "a x", "l i", "a" * 8, "a" * 61, "b a b", "?", "aa aa", "aaa"):
                self.assertEqual(best_as(alphabet, lexicon, line, text), first.get(text))

    def test_texts_that_no_reading_has(self):
        line, lexicon = full(1, 5), Lexicon([], blank=2)
        self.assertEqual(best_as(ONE, lexicon, line, "aaaaa")[1], tuple((column, 0) for column in range(5)))
        self.assertEqual(best_as(ONE, lexicon, line, "a a"), (7, ((0, 0), (3, 0))))
        for text in ("aaaaaa", "a a a", "b", "ab", "A", "aa aa", "a" * 10 ** 5, " ".join("a" * 10 ** 4)):
            self.assertIs(best_as(ONE, lexicon, line, text), None)
        self.assertEqual(best_as(ONE, lexicon, line, "aa a"), (6, ((0, 0), (1, 0), (4, 0))))

    def test_wide_lines(self):
        for seed in range(12):
            alphabet, lexicon = wide_case(seed)
            line = made(9, 60, seed, of_ten=5)
            for cost, reading in next_by(alphabet, lexicon, line, 5):
                text = text_of(alphabet, reading, blank=lexicon.blank)
                found = best_as(alphabet, lexicon, line, text)
                self.assertLessEqual(found, (cost, reading))
                self.assertEqual(text_of(alphabet, found[1], blank=lexicon.blank), text)
                self.assertEqual(cost_by(alphabet, lexicon, line, found[1]), found[0])
            self.assertEqual(best_as(alphabet, lexicon, line, text_of(alphabet, read_by(alphabet, lexicon, line)[1],
                                                                      blank=6)), read_by(alphabet, lexicon, line))

    def test_refusals(self):
        line, lexicon = set_line(NEAR, "ab"), Lexicon(["ab"])
        for thing in [*others(), *numbers(), full(3, 3), full(2, 61)]:
            refusal(self, NoLine, best_as, NEAR, lexicon, thing, None)
        for thing in [*[thing for thing in others() if type(thing) is not str], *numbers(), " ", "a  b", " a", "a ",
                      "a\n", "\n", "a b ", "a\x7f"]:
            self.assertIs(refusal(self, NoWord, best_as, NEAR, lexicon, line, thing).word, thing)
        self.assertEqual(best_as(text="ab", line=line, lexicon=lexicon, alphabet=NEAR), read_by(NEAR, lexicon, line))


class InTime(unittest.TestCase):

    def test_great_lines(self):
        for seed in range(3):
            alphabet, lexicon = wide_case(seed)
            narrow = Alphabet(9, [(sign, made(9, 1, 100 + at, of_ten=5)) for at, sign in enumerate("abcdefghijklmnop")])
            same = Alphabet(9, [("a", picture) for _, picture in narrow.shapes()])
            line = made(9, 60, seed, of_ten=5)
            for each in (alphabet, narrow, same):
                for pattern in ("????????", "????", "abc", "a??"):
                    self.timed(places, each, lexicon, line, pattern, within=99)
                for text in ("a" * 60, "a" * 30, "aaaaaaaa " * 6 + "a", "a a a a a a a a a"):
                    self.timed(best_as, each, lexicon, line, text)

    def timed(self, call, *rest, **more):
        started = time.perf_counter()
        call(*rest, **more)
        self.assertLess(time.perf_counter() - started, 0.5)


class AsTold(unittest.TestCase):

    def test_words_of_tells_the_same_words(self):
        for reading in itertools.islice((reading for _, reading in next_by(PARTS, Lexicon([]), full(2, 12), 20)), 20):
            words = words_of(PARTS, reading, blank=2)
            self.assertEqual({reading[first][0]: word for word, first, _ in words}, whole_words(PARTS, reading, 2))


if __name__ == "__main__":
    unittest.main()
