"""How far apart the lines of an alphabet are: the fewest places at which two unlike readings draw them otherwise."""

from dotread.errors import TooMany
from dotread.kinds import is_between
from dotread.reading import MOST_LINE_COLUMNS, drawn, next_ones
from dotread.weights import column_numbers, dot_counts

# No two lines differ at as many places.
FAR = 1000000


def parting(alphabet, most):
    """Tell (number, wide, one, other): the fewest places, and the first two readings of the least width so near."""
    nearest = _nearest(alphabet, most)
    if nearest is None:
        return None
    number, wide, one = nearest
    # As no other line is nearer, nothing but the reading itself comes ahead of the one that is wanted.
    other = next_ones(alphabet, drawn(alphabet, wide, one), 2)[1][1]
    return number, wide, one, other


def safe(alphabet, most):
    """Tell how many places of each such line may be turned over at most so that it is read as it was set."""
    nearest = _nearest(alphabet, most)
    return None if nearest is None else (nearest[0] - 1) // 2


def _nearest(alphabet, most):
    """Tell (number, wide, one): the fewest places, the least width, and the least reading of any pair so near."""
    if not is_between(most, 1, MOST_LINE_COLUMNS):
        raise TooMany(MOST_LINE_COLUMNS)
    pairs = Pairs(alphabet)
    nearest = (FAR, 0, ())
    for wide in range(1, most + 1):
        number, one = pairs.first_unlike()
        if number < nearest[0]:
            nearest = (number, wide, tuple([(wide + column, at) for column, at in one]))
        pairs.widen()
    return nearest if nearest[0] < FAR else None


class Pairs:
    """Two readings drawn side by side, from the last column on: how near they come, whatever stands ahead.

    A drawing stands between windows (state 0) or within one. Columns are counted from behind: the last one is -1.
    """

    def __init__(self, alphabet):
        self._counts = dot_counts(alphabet.high())
        self._steps = _steps(alphabet)
        self._column = -1
        # By the states of both drawings: the nearest that may follow, a pair (number, windows of the first one).
        self._rest = [[(FAR, ()) for _ in self._steps] for _ in self._steps]
        self._rest[0][0] = (0, ())

    def first_unlike(self):
        """Tell the first of all pairs that begin with unlike windows one column ahead, as (number, windows)."""
        # In a pair of the least width the two begin so: what both have at the front could be left out of both.
        begun = self._steps[0]
        return min([self._joined(one, other) for one in begun for other in begun if one != other])

    def widen(self):
        """Go one column ahead, whatever stands in it."""
        self._rest = [[min([self._joined(one, other) for one in ones for other in others]) for others in self._steps]
                      for ones in self._steps]
        self._column = self._column - 1

    def _joined(self, one, other):
        dots, state, number = one
        more, beside, _ = other
        nearer, windows = self._rest[state][beside]
        if number is not None:
            windows = ((self._column, number),) + windows
        return self._counts[dots ^ more] + nearer, windows


def _steps(alphabet):
    """Tell for each state all that may stand in the next column: its dots, the state behind it, the shape begun."""
    steps = [[(0, 0, None)]]
    for number, (_, picture) in enumerate(alphabet.shapes()):
        columns = column_numbers(picture)
        states = list(range(len(steps), len(steps) + len(columns) - 1)) + [0]
        steps[0].append((columns[0], states[0], number))
        steps = steps + [[(dots, state, None)] for dots, state in zip(columns[1:], states[1:])]
    return steps
