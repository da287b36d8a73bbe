"""What the program is compared with: all readings of a small line gone through one by one, and wide ones walked."""

import functools
import itertools

from dotread.alphabets import Alphabet, set_line
from dotread.dots import with_turned
from tests.things import full, made

NEAR = Alphabet(2, [("a", ("##", "##")), ("b", ("##", "#.")), ("c", ("#.", "##"))])
PARTS = Alphabet(2, [("u", ("#.#", "###")), ("l", ("#.", "##")), ("i", ("#", "#")), (".", (".", "#"))])
ONE_SIGN = Alphabet(1, [("a", ("#",)), ("a", ("#.",)), ("b", ("##",)), ("a", (".#",))])
NARROW = Alphabet(3, [("a", ("#", "#", ".")), ("b", ("#", ".", "#")), ("?", (".", "#", "#"))])
MARGINS = Alphabet(1, [("a", (".#.",)), ("b", ("..#",)), ("c", ("#..#",)), ("a", ("#",))])
ONE = Alphabet(1, [("a", ("#",))])
BROAD = Alphabet(1, [("w", ("########",)), ("i", ("#.",))])
SMALL = [NEAR, PARTS, ONE_SIGN, NARROW, MARGINS, ONE, BROAD]


def lines_of(alphabet, columns):
    """Lines of so many columns: no dots, all dots, any dots."""
    high = alphabet.high()
    return [full(high, columns, "."), full(high, columns),
            *[made(high, columns, seed, of_ten) for seed, of_ten in enumerate((2, 4, 5, 6, 8))]]


def set_lines(alphabet, most):
    """Lines of at most so many columns that are set with the alphabet, and the same ones spoilt."""
    signs = alphabet.signs()
    texts = [signs[0], signs[-1], signs[0] + signs[-1], signs[-1] * 2, signs[0] + " " + signs[-1], signs[-1] * 4]
    lines = []
    for at, text in enumerate(texts):
        for gap in (0, 1):
            line = set_line(alphabet, text, gap=gap, blank=2)
            if len(line[0]) <= most:
                lines += [line, with_turned(line, [(at % alphabet.high(), (at * 3 + gap) % len(line[0]))])]
    return lines


def windows_of(alphabet, columns):
    """All windows of lines of so many columns."""
    return [(column, number) for column in range(columns) for number in range(len(alphabet))
            if column + alphabet.wide(number) <= columns]


def all_readings(alphabet, columns):
    """All readings of lines of so many columns."""
    return _readings(tuple(alphabet.wide(number) for number in range(len(alphabet))), columns, 0)


@functools.lru_cache(maxsize=None)
def _readings(wides, columns, start):
    found = [()]
    for column in range(start, columns):
        for number, wide in enumerate(wides):
            if column + wide <= columns:
                found += [((column, number), *rest) for rest in _readings(wides, columns, column + wide)]
    return found


def counted(alphabet, line, reading):
    """A reading's cost, place by place."""
    shapes = alphabet.shapes()
    wanted = {(row, column + at) for column, number in reading
              for row, signs in enumerate(shapes[number][1]) for at, sign in enumerate(signs) if sign == "#"}
    there = {(row, column) for row, signs in enumerate(line) for column, sign in enumerate(signs) if sign == "#"}
    return len(wanted ^ there)


def spelled(alphabet, reading, blank):
    """A reading's text, sign by sign."""
    text, edge = "", None
    for column, number in reading:
        sign, picture = alphabet.shapes()[number]
        text += (" " if edge is not None and column - edge >= blank else "") + sign
        edge = column + len(picture[0])
    return text


def counted_by(alphabet, lexicon, line, reading):
    """A reading's cost by dots and strange words."""
    strange = [word for word in spelled(alphabet, reading, lexicon.blank).split() if word not in lexicon.words()]
    return counted(alphabet, line, reading) + lexicon.strange * len(strange)


def in_order(alphabet, line):
    """All pairs (cost, reading), the first one first."""
    return sorted((counted(alphabet, line, reading), reading) for reading in all_readings(alphabet, len(line[0])))


def in_order_by(alphabet, lexicon, line):
    """All pairs (cost, reading) by dots and strange words, the first one first."""
    readings = all_readings(alphabet, len(line[0]))
    return sorted((counted_by(alphabet, lexicon, line, reading), reading) for reading in readings)


class Walk:
    """The first of all readings of a wide line, found another way: the least that each rest costs, then sign by sign.

    A word is paid where it ends, its text is kept as it stands, and what is told is picked from the left: the end where
    all that is left may be white, else the first window that leads to the least cost, else a white column.
    """

    def __init__(self, alphabet, line, lexicon=None, without=None, having=None):
        self.shapes = alphabet.shapes()
        self.columns = len(line[0])
        self.whites = [sum(row[column] == "#" for row in line) for column in range(self.columns)]
        self.words = [] if lexicon is None else lexicon.words()
        self.strange = 0 if lexicon is None else lexicon.strange
        self.blank = 1 if lexicon is None else lexicon.blank
        self.without = without
        self.having = having
        self.fits = {window: counted(alphabet, tuple(row[window[0]:self._behind(window)] for row in line),
                                     ((0, window[1]),))
                     for window in windows_of(alphabet, self.columns)}
        self.least = functools.lru_cache(maxsize=None)(self._least)

    def _behind(self, window):
        return window[0] + len(self.shapes[window[1]][1][0])

    def _price(self, word):
        return self.strange if word and word not in self.words else 0

    def _grown(self, word, sign):
        text = word + sign
        return text if any(known.startswith(text) for known in self.words) else " "

    def _may_stand(self, window):
        if self.having is None or window == self.having:
            return window != self.without
        return self._behind(window) <= self.having[0] or window[0] >= self._behind(self.having)

    def _may_be_white(self, column):
        return self.having is None or not self.having[0] <= column < self._behind(self.having)

    def _steps(self, column, word, white):
        """All that may stand at a column: (window or None, cost, column, word, white)."""
        steps = []
        for number, (sign, _) in enumerate(self.shapes):
            window = (column, number)
            if window in self.fits and self._may_stand(window):
                steps.append((window, self.fits[window], self._behind(window), self._grown(word, sign), 0))
        if self._may_be_white(column):
            price = self.whites[column]
            if word and white + 1 == self.blank:
                steps.append((None, price + self._price(word), column + 1, "", 0))
            else:
                steps.append((None, price, column + 1, word, white + 1 if word else 0))
        return steps

    def _least(self, column, word, white):
        if column == self.columns:
            return self._price(word)
        return min([cost + self.least(*there) for _, cost, *there in self._steps(column, word, white)],
                   default=float("inf"))

    def first(self):
        """The pair (cost, reading)."""
        total = left = self.least(0, "", 0)
        column, word, white, reading = 0, "", 0, []
        while left != sum(self.whites[column:]) + self._price(word) or not self._may_end(column):
            for window, cost, *there in self._steps(column, word, white):
                if cost + self.least(*there) == left:
                    break
            left -= cost
            column, word, white = there
            reading += [] if window is None else [window]
        return total, tuple(reading)

    def _may_end(self, column):
        return self.having is None or column > self.having[0]

    def _costs(self, column, word, white, bound):
        """All costs up to a bound that what follows may have."""
        if column == self.columns:
            return frozenset([self._price(word)])
        return frozenset(cost + more for _, cost, *there in self._steps(column, word, white)
                         for more in self.costs(*there, bound) if cost + more <= bound)

    def _of_cost(self, column, word, white, left, bound):
        """All windows that may follow for just this cost, in order."""
        if left == sum(self.whites[column:]) + self._price(word):
            yield ()
        for window, cost, *there in (self._steps(column, word, white) if column < self.columns else []):
            if left - cost in self.costs(*there, bound):
                for rest in self._of_cost(*there, left - cost, bound):
                    if window is not None:
                        yield (window, *rest)
                    elif rest:
                        yield rest

    def first_ones(self, many, bound):
        """The first so many pairs (cost, reading), as far as they cost no more than the bound."""
        self.costs = functools.lru_cache(maxsize=None)(self._costs)
        pairs = ((cost, reading) for cost in sorted(self.costs(0, "", 0, bound))
                 for reading in self._of_cost(0, "", 0, cost, bound))
        return list(itertools.islice(pairs, many))
