"""All readings of a line weighed at once: each is a way from its first column to behind its last one.

A way costs what it costs more than a line that is left white: white columns are free, most windows cost less than 0.
"""

from heapq import heappop, heappush

from dotread.weights import white_cost, window_costs

# Greater than what any reading costs: a line has at most 540 dots, and 60 strange words of 99.
FAR = 1000000
NO_WAY = (FAR, ())


class Ways:
    """The ways through a line, by columns that are left white and by windows, in the order of (cost, reading)."""

    def __init__(self, alphabet, line, spelling):
        self.spelling = spelling
        self.white = white_cost(line)
        self.windows = window_costs(alphabet, line)
        # By the column, then by the state: the first of all that may follow, a pair (cost, windows).
        self.rest = self._weighed()

    def _weighed(self):
        columns = len(self.windows)
        rest = [[(0, ()) for _ in self.spelling.beginnings] for _ in range(columns + 1)]
        for column in reversed(range(columns)):
            white = rest[column + 1]
            # Whichever window is set, no matter how many white columns stand ahead of it: so by the beginning alone.
            begun = self._first_windows(column, rest)
            spelling = self.spelling
            rest[column] = [min(white[behind], begun[at])
                            for behind, at in zip(spelling.behind_white, spelling.beginnings)]
        return rest

    def _first_windows(self, column, rest):
        """Tell for each beginning the first of all ways that go on with a window at this column."""
        spelling = self.spelling
        here = {window[1]: (window, more, rest[column + wide]) for window, wide, more in self.windows[column]}
        # The beginning of a known word is taken for a strange one, too: no reading is made cheaper by that.
        strange = [set_ahead(window, more, behind[spelling.strange_state]) for window, more, behind in here.values()]
        cost, windows = min([NO_WAY] + strange)
        return [min([(cost + price, windows)] + _known_windows(known, here))
                for known, price in zip(spelling.known, spelling.strange_prices)]

    def first(self):
        """Tell the first of all readings, a pair (cost, reading)."""
        return self.told(self.rest[0][0])

    def told(self, way):
        """Tell the pair (cost, reading) of a way from end to end."""
        cost, windows = way
        return self.white + cost, windows

    def first_ones(self, many):
        """Tell the list of the first so many of all readings, fewer where there are no more."""
        found = []
        queue = [self._branch(0, 0, 0, ())]
        while queue and len(found) < many:
            cost, windows, column, state, paid, begun = heappop(queue)
            if column == len(self.windows):
                found.append(self.told((cost, windows)))
                continue
            for branch in self._branches(column, state, paid, begun):
                heappush(queue, branch)
        return found

    def _branches(self, column, state, paid, begun):
        branches = [self._branch(column + 1, self.spelling.behind_white[state], paid, begun)]
        for window, wide, more in self.windows[column]:
            behind, price = self.spelling.step(self.spelling.beginnings[state], window[1])
            branches.append(self._branch(column + wide, behind, paid + more + price, begun + (window,)))
        return branches

    def _branch(self, column, state, paid, begun):
        # It stands in the queue for all readings that begin so, by the first of them: that one is then found next.
        more, windows = self.rest[column][state]
        return paid + more, begun + windows, column, state, paid, begun


def _known_windows(known, here):
    found = []
    for number, (state, price) in known.items():
        if number in here:
            window, more, behind = here[number]
            found.append(set_ahead(window, more + price, behind[state]))
    return found


def set_ahead(window, more, way):
    """Tell the way on which a window that costs so much is set ahead of another way."""
    cost, windows = way
    return more + cost, (window,) + windows
