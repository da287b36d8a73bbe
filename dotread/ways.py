"""All readings of a line weighed at once: each is a way from its first column to behind its last one."""

from heapq import heappop, heappush

from dotread.weights import white_costs, window_costs

# No reading costs as much: a line has at most 540 dots, and 60 strange words of 99.
NO_WAY = (1000000, ())


class Ways:
    """The ways through a line, by columns that are left white and by windows, in the order of (cost, reading)."""

    def __init__(self, alphabet, line, spelling):
        self.spelling = spelling
        self.whites = white_costs(line)
        self.windows = window_costs(alphabet, line)
        # By the column, then by the state: the first of all that may follow, a pair (cost, windows).
        self.rest = self._weighed()

    def _weighed(self):
        columns = len(self.whites)
        rest = [[(0, ()) for _ in self.spelling.beginnings] for _ in range(columns + 1)]
        for column in reversed(range(columns)):
            rest[column] = self._weighed_at(column, rest)
        return rest

    def _weighed_at(self, column, rest):
        dots = self.whites[column]
        white = [(cost + dots, windows) for cost, windows in rest[column + 1]]
        # Whichever window is set, no matter how many white columns stand ahead of it: so by the beginning alone.
        begun = [self._first_window(column, steps, rest) for steps in self.spelling.behind_shape]
        spelling = self.spelling
        return [min(white[behind], begun[at]) for behind, at in zip(spelling.behind_white, spelling.beginnings)]

    def _first_window(self, column, steps, rest):
        first = NO_WAY
        for window, wide, dots in self.windows[column]:
            state, price = steps[window[1]]
            more, windows = rest[column + wide][state]
            cost = dots + price + more
            # The windows rise, so of two that cost as much the first one is the one looked at first.
            if cost < first[0]:
                first = (cost, (window,) + windows)
        return first

    def first(self):
        """Tell the first of all readings, a pair (cost, reading)."""
        return self.rest[0][0]

    def first_ones(self, many):
        """Tell the list of the first so many of all readings, fewer where there are no more."""
        found = []
        queue = [self._branch(0, 0, 0, ())]
        while queue and len(found) < many:
            cost, reading, column, state, paid, begun = heappop(queue)
            if column == len(self.whites):
                found.append((cost, reading))
                continue
            for branch in self._branches(column, state, paid, begun):
                heappush(queue, branch)
        return found

    def _branches(self, column, state, paid, begun):
        white = self.spelling.behind_white[state]
        branches = [self._branch(column + 1, white, paid + self.whites[column], begun)]
        steps = self.spelling.behind_shape[self.spelling.beginnings[state]]
        for window, wide, dots in self.windows[column]:
            behind, price = steps[window[1]]
            branches.append(self._branch(column + wide, behind, paid + dots + price, begun + (window,)))
        return branches

    def _branch(self, column, state, paid, begun):
        # It stands in the queue for all readings that begin so, by the first of them: that one is then found next.
        more, windows = self.rest[column][state]
        return paid + more, begun + windows, column, state, paid, begun
