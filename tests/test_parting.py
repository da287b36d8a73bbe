"""Promises 0.2 (b) and 6.1: how far apart the lines of an alphabet are."""

import functools
import itertools
import random
import time
import unittest

from dotread.alphabets import Alphabet
from dotread.dots import unlike, with_turned
from dotread.errors import TooMany
from dotread.parting import parting, safe
from dotread.reading import drawn, next_ones, read
from tests.brute import ONE, SMALL, all_readings
from tests.things import made, numbers, others, refusal

TOGETHER = Alphabet(1, [("a", ("#",)), ("b", ("##",))])
BESIDE = Alphabet(1, [("a", ("#.",)), ("b", (".#",))])
WHITE_WITHIN = Alphabet(2, [("a", ("#..#", "#..#")), ("b", ("#", "#")), ("b", ("##", "##"))])
FAR = Alphabet(3, [("a", ("##", "##", "##")), ("o", ("###", "#.#", "###"))])
LOW = Alphabet(9, [("i", ("#",) * 9), ("j", ("#",) * 4 + (".",) * 5)])
EVEN = Alphabet(2, [("a", ("##", "##")), ("b", (".#", "#.")), ("b", ("####", "##.."))])
CUTS = [*SMALL, TOGETHER, BESIDE, WHITE_WITHIN, FAR, LOW, EVEN]


def of_columns(sign, columns):
    """A shape of one row."""
    return sign, (columns,)


def of_rows(*rows):
    """Shapes of one row each."""
    return Alphabet(1, [of_columns("a", row) for row in rows])


def powers(*lengths):
    """Shapes of one row, all dots, of these lengths."""
    return of_rows(*["#" * length for length in lengths])


WIDE = [
    of_rows("##..", "###..###", "..#"), of_rows("..#....", "#.....#"), of_rows("###.###", ".###.#", "#."),
    of_rows(".#.#.#", "#.#.#.#."), powers(7, 8), powers(8),
    Alphabet(9, [("x", tuple("#" if at >> row & 1 else "." for row in range(9))) for at in range(1, 17)]),
    Alphabet(9, [("x", made(9, 8, 1)), ("y", made(9, 8, 2))]), Alphabet(9, [("x", made(9, 8, 1))]),
    Alphabet(9, [("x", made(9, 2, seed, of_ten=5)) for seed in range(8)]),
    of_rows("#" * 8, "#" * 5, "###"), of_rows("#.#.#.#.", "#.#.#", "#.#"),
]
HIGH = [Alphabet(3, [("a", ("#", "#", "#"))]), Alphabet(4, [("a", ("#",) * 4), ("b", ("##", "##", "##", ".."))]),
        Alphabet(4, [("a", ("##",) * 4)]), Alphabet(9, [("a", ("#",) * 9)])]


def of_seed(seed):
    """An alphabet of at most 16 columns in all, its shapes parts of one picture or of any dots."""
    chance = random.Random(seed)
    high, left, pictures = chance.choice((1, 1, 2, 3)), 16, []
    base = made(high, 30, seed, of_ten=7)
    while left:
        wide, start = chance.randint(1, min(8, left)), chance.randrange(20)
        picture = tuple(row[start:start + wide] for row in chance.choice((base, made(high, 30, start, of_ten=6))))
        if picture not in pictures and any("#" in row for row in picture):
            pictures.append(picture)
        left -= wide
    return Alphabet(high, [("x", picture) for picture in pictures] or [("x", ("#",) * high)])


def dotted(alphabet, columns, reading):
    """A number that has a bit for each dot of the line that a reading sets."""
    shapes = alphabet.shapes()
    return sum(1 << row * columns + column + at for column, number in reading
               for row, signs in enumerate(shapes[number][1]) for at, sign in enumerate(signs) if sign == "#")


def columns_gone_through(alphabet):
    """Up to how many columns all pairs of readings are gone through."""
    return max(columns for columns in range(1, 9) if len(all_readings(alphabet, columns)) <= 300)


@functools.lru_cache(maxsize=None)
def nearest(at, columns):
    """The least (number, one, other) of all pairs of unlike readings of so many columns, gone through one by one."""
    readings = sorted((reading, dotted(CUTS[at], columns, reading)) for reading in all_readings(CUTS[at], columns))
    pairs = [((one[1] ^ other[1]).bit_count(), one[0], other[0]) for one, other in itertools.combinations(readings, 2)]
    return min(pairs, default=None)


def told(at, most):
    """What parting is to tell."""
    found = [(number, columns, one, other) for columns in range(1, most + 1) if nearest(at, columns) is not None
             for number, one, other in [nearest(at, columns)]]
    return min(found, default=None)


class Couples:
    """Another way for wide lines: from the left, by what the one drawing has yet to draw when the other one is through.

    The fewest places by which two lines of so many columns differ whose readings begin unlike.
    """

    def __init__(self, alphabet):
        self.columns = [list(zip(*picture)) for _, picture in alphabet.shapes()]
        self.white = (".",) * alphabet.high()
        self.least = functools.lru_cache(maxsize=None)(self._least)

    def _begun(self):
        return [((self.white,), None)] + [(tuple(columns), number) for number, columns in enumerate(self.columns)]

    def _least(self, ahead, left):
        """The fewest behind: one drawing has these columns yet, the other none."""
        if left < len(ahead):
            return 10 ** 6
        if not left:
            return 0
        if not ahead:
            return min(self.put(one, other, left) for one, _ in self._begun() for other, _ in self._begun())
        return min(self.put(ahead, other, left) for other, _ in self._begun())

    def put(self, one, other, left):
        """The fewest where two such stretches begin at one column."""
        many = min(len(one), len(other))
        if many > left:
            return 10 ** 6
        here = sum(sign != beside for column, above in zip(one, other) for sign, beside in zip(column, above))
        return here + self.least(one[many:] or other[many:], left - many)

    def nearest(self, most):
        """The pair (number, wide)."""
        begun = self._begun()
        return min((self.put(one, other, wide), wide) for wide in range(1, most + 1)
                   for (one, at), (other, beside) in itertools.combinations(begun, 2))


class Parting(unittest.TestCase):

    def test_small_ones_one_by_one(self):
        for at, alphabet in enumerate(CUTS):
            for most in range(1, columns_gone_through(alphabet) + 1):
                self.assertEqual(parting(alphabet, most), told(at, most), (at, most))

    def test_of_wider_lines_no_greater(self):
        for alphabet in CUTS:
            ahead = None
            for most in range(1, 61):
                found = parting(alphabet, most)
                self.assertTrue(ahead is None or found[:2] == ahead[:2] or found[0] < ahead[0])
                self.assertTrue(found is None or ahead is None or found[1] in (ahead[1], most))
                ahead = found

    def test_one_reading_alone(self):
        wide = powers(8)
        for most in range(1, 8):
            self.assertIs(parting(wide, most), None)
            self.assertIs(safe(wide, most), None)
        self.assertEqual(parting(wide, 8), (8, 8, (), ((0, 0),)))
        self.assertEqual(parting(wide, 60), (2, 9, ((0, 0),), ((1, 0),)))

    def test_the_least_width_and_the_least_pair(self):
        self.assertEqual(parting(ONE, 60), (1, 1, (), ((0, 0),)))
        self.assertEqual(parting(TOGETHER, 1), (1, 1, (), ((0, 0),)))
        self.assertEqual(parting(TOGETHER, 2), (0, 2, ((0, 0), (1, 0)), ((0, 1),)))
        self.assertEqual(parting(BESIDE, 1), None)
        self.assertEqual(parting(BESIDE, 2), (1, 2, (), ((0, 0),)))
        self.assertEqual(parting(BESIDE, 60), (0, 3, ((0, 1),), ((1, 0),)))

    def test_two_tuples_of_readings(self):
        for alphabet in CUTS:
            number, wide, one, other = parting(alphabet, 20)
            self.assertLess(one, other)
            self.assertEqual(unlike(drawn(alphabet, wide, one), drawn(alphabet, wide, other)), number)
            self.assertEqual(parting(alphabet, 20), (number, wide, one, other))
            self.assertIs(type(parting(alphabet, 20)), tuple)

    def test_only_reached_by_wide_lines(self):
        for lengths, wide in (((7, 8), 15), ((6, 7), 13), ((5, 8), 13), ((7, 8, 1), 7)):
            alphabet = powers(*lengths)
            number, least, one, other = parting(alphabet, 60)
            self.assertEqual((number, least), (0, wide))
            self.assertEqual(drawn(alphabet, wide, one), drawn(alphabet, wide, other))
            self.assertGreater(parting(alphabet, wide - 1)[0], 0)
            self.assertEqual(safe(alphabet, wide), -1)
        self.assertEqual(parting(powers(7, 8), 60), (0, 15, ((0, 0), (7, 1)), ((0, 1), (8, 0))))
        self.assertEqual(parting(powers(7, 8), 14), (1, 8, ((0, 0),), ((0, 1),)))

    def test_wide_ones_another_way(self):
        found = [parting(alphabet, 60)[:2] for alphabet in WIDE]
        self.assertEqual(found, [Couples(alphabet).nearest(60) for alphabet in WIDE])
        self.assertEqual(found[:4], [(0, 17), (0, 19), (0, 20), (0, 25)])

    def test_any_shapes_another_way(self):
        for seed in range(60):
            alphabet = of_seed(seed)
            number, wide, one, other = parting(alphabet, 60)
            self.assertEqual((number, wide), Couples(alphabet).nearest(60))
            self.assertEqual(unlike(drawn(alphabet, wide, one), drawn(alphabet, wide, other)), number)

    def test_the_least_pair_of_wide_ones(self):
        # Each reading of that width by itself: the first one that has another one so near.
        for alphabet in (powers(5, 8), powers(6, 7), *WIDE[:2]):
            number, wide, one, other = parting(alphabet, 60)
            for reading in sorted(all_readings(alphabet, wide)):
                near = next_ones(alphabet, drawn(alphabet, wide, reading), 2)
                if near[1][0] == number:
                    break
            self.assertEqual((one, other), tuple(sorted([near[0][1], near[1][1]])))

    def test_in_time(self):
        started = time.perf_counter()
        for alphabet in WIDE:
            parting(alphabet, 60)
            safe(alphabet, 60)
        self.assertLess(time.perf_counter() - started, 2 * len(WIDE))

    def test_refusals(self):
        for call in (parting, safe):
            for most in [*others(), *numbers(), 0, 61, "1", [1]]:
                self.assertEqual(refusal(self, TooMany, call, ONE, most).most, 60)
            self.assertIsNotNone(call(ONE, 1))
            self.assertIsNotNone(call(ONE, 60))


class Safe(unittest.TestCase):

    def spoilt(self, alphabet, columns):
        """The fewest places turned over in a line so that another reading than its own costs no more.

        Of all lines of so many columns: the second nearest reading of it is one that isn't told first, whose line
        comes to this one by so many places; where two are as near the first one isn't alone.
        """
        readings = [dotted(alphabet, columns, reading) for reading in all_readings(alphabet, columns)]
        return min(sorted([(dots ^ line).bit_count() for dots in readings])[1]
                   for line in range(1 << alphabet.high() * columns))

    def test_all_lines_gone_through(self):
        seen = set()
        for alphabet in [*CUTS[2:], *HIGH]:
            least = None
            for most in range(1, 9 // alphabet.high() + 1):
                if len(all_readings(alphabet, most)) > 1:
                    least = min(self.spoilt(alphabet, most), 99 if least is None else least)
                self.assertEqual(safe(alphabet, most), None if least is None else least - 1)
                seen.add(safe(alphabet, most))
        self.assertLessEqual({None, -1, 0, 1, 2, 4}, seen)

    def test_odd_and_even_partings(self):
        self.assertEqual([safe(LOW, 1), parting(LOW, 1)[0]], [1, 4])
        self.assertEqual([safe(LOW.without(1), 1), parting(LOW.without(1), 1)[0]], [4, 9])
        self.assertEqual([safe(FAR, 2), parting(FAR, 2)[0]], [2, 6])
        for alphabet in [*CUTS, *HIGH]:
            for most in (1, 2, 5, 9, 60):
                found = parting(alphabet, most)
                self.assertEqual(safe(alphabet, most), None if found is None else (found[0] - 1) // 2)

    def test_up_to_fewer_than_half(self):
        for alphabet in [*HIGH, FAR, LOW]:
            for columns in (8, 13):
                for reading in next_ones(alphabet, ("#" * columns,) * alphabet.high(), 5):
                    self.check_turned(alphabet, columns, reading[1])

    def check_turned(self, alphabet, columns, reading):
        line = drawn(alphabet, columns, reading)
        places = list(itertools.product(range(alphabet.high()), range(columns)))
        for step in (1, 3, 7):
            for many in range(safe(alphabet, columns) + 1):
                turned = [places[at * step] for at in range(many)]
                found = next_ones(alphabet, with_turned(line, turned), 2)
                self.assertEqual(found[0], (many, reading))
                self.assertGreater(found[1][0], many)

    def test_one_more_is_too_many(self):
        for alphabet in [*CUTS, *HIGH]:
            number, wide, one, other = parting(alphabet, 8)
            ahead, line = drawn(alphabet, wide, one), drawn(alphabet, wide, other)
            places = [(row, column) for row in range(alphabet.high()) for column in range(wide)
                      if ahead[row][column] != line[row][column]]
            self.assertEqual(len(places), number)
            spoilt = with_turned(line, places[:safe(alphabet, 8) + 1])
            self.assertNotEqual(read(alphabet, spoilt)[1], other)


if __name__ == "__main__":
    unittest.main()
