"""For every window of a line: the first of all readings that have it, and of all that haven't it."""

from dotread.alphabets import MOST_WIDE

# Stands behind the windows that lead to a column, so that of two ways there the one is less that is first whichever
# window follows: ((0, 1), (2, 1), END) is less than ((0, 1), END), for (2, 1) stands ahead of whatever may follow.
END = (1000,)


class Crossings:
    """The first of all readings, by what crosses a column: a window, or white."""

    def __init__(self, ways):
        self._ways = ways
        self._with = {}
        self._white = []
        self._weigh()

    def first_with(self, window):
        """Tell the first of all readings that have this window, a pair (cost, reading)."""
        return self._with[window]

    def first_without(self, window):
        """Tell the first of all readings that haven't this window, a pair (cost, reading)."""
        # Each of them leaves the window's first column white, or has another window over it.
        column = window[0]
        found = [self._white[column]]
        for start in range(max(0, column - MOST_WIDE + 1), column + 1):
            for other, wide, _ in self._ways.windows[start]:
                if start + wide > column and other != window:
                    found.append(self._with[other])
        return min(found)

    def _weigh(self):
        whites = self._ways.whites
        # By the column, then by the state: the first of all that leads there, a pair (cost, windows and END).
        ahead = [{} for _ in range(len(whites) + 1)]
        ahead[0][0] = (0, (END,))
        over = (sum(whites), ())
        for column in range(len(whites)):
            here = ahead[column]
            # Readings whose windows all stand ahead are compared by themselves: of two ways that lead to one state the
            # one that is kept is first with any window behind it, while the other one may be first with none.
            over = min(over, self._first_over(column, here))
            self._white.append(min(over, self._first_white(column, here)))
            self._go_white(column, here, ahead[column + 1])
            self._go_windows(column, here, ahead)

    def _first_over(self, column, here):
        dots = sum(self._ways.whites[column:])
        return min([_joined(way, dots, (), (0, ())) for way in here.values()])

    def _first_white(self, column, here):
        dots = self._ways.whites[column]
        rest = self._ways.rest[column + 1]
        behind = self._ways.spelling.behind_white
        return min([_joined(way, dots, (), rest[behind[state]]) for state, way in here.items()])

    def _go_white(self, column, here, there):
        dots = self._ways.whites[column]
        for state, way in here.items():
            _offer(there, self._ways.spelling.behind_white[state], _joined(way, dots, (END,), (0, ())))

    def _go_windows(self, column, here, ahead):
        for at, way in self._by_beginning(here).items():
            steps = self._ways.spelling.behind_shape[at]
            for window, wide, dots in self._ways.windows[column]:
                state, price = steps[window[1]]
                rest = self._ways.rest[column + wide][state]
                _offer(self._with, window, _joined(way, dots + price, (window,), rest))
                _offer(ahead[column + wide], state, _joined(way, dots + price, (window, END), (0, ())))

    def _by_beginning(self, here):
        # What follows a window is the same however many white columns stand ahead of it.
        first = {}
        for state, way in here.items():
            _offer(first, self._ways.spelling.beginnings[state], way)
        return first


def _joined(way, dots, windows, rest):
    cost, begun = way
    more, behind = rest
    return cost + dots + more, begun[:-1] + windows + behind


def _offer(first, name, way):
    if name not in first or way < first[name]:
        first[name] = way
