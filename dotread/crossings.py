"""For every window of a line: the first of all readings that have it, and of all that haven't it."""

from dotread.alphabets import MOST_WIDE
from dotread.leads import Leads, joined


class Crossings:
    """The first of all readings, by what crosses a column: a window, or white."""

    def __init__(self, ways):
        self._ways = ways
        self._leads = Leads(ways)

    def first_with(self, window):
        """Tell the first of all readings that have this window, a pair (cost, reading)."""
        column, number = window
        wide = [wide for other, wide, _ in self._ways.windows[column] if other[1] == number][0]
        return self._ways.told(self._first_with(window, wide))

    def _first_with(self, window, wide):
        rest = self._ways.rest[window[0] + wide]
        return min([joined(lead, rest[state]) for state, lead in self._leads.ending[window]])

    def first_without(self, window):
        """Tell the first of all readings that haven't this window, a pair (cost, reading)."""
        # Each of them leaves the window's first column white, or has another window over it.
        column = window[0]
        found = [self._first_white(column)]
        for start in range(max(0, column - MOST_WIDE + 1), column + 1):
            for other, wide, _ in self._ways.windows[start]:
                if start + wide > column and other != window:
                    found.append(self._first_with(other, wide))
        return self._ways.told(min(found))

    def _first_white(self, column):
        rest = self._ways.rest[column + 1]
        behind = self._ways.spelling.behind_white
        white = [joined(lead, rest[state]) for lead, state in zip(self._leads.ahead[column], behind)]
        return min([self._leads.over[column]] + white)
