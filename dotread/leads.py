"""The first of all ways that lead from a line's first column to each other one, weighed from the front."""

from dotread.ways import FAR

# Stands behind the windows that lead to a column, so that of two ways there the one is less that is first whichever
# window follows: ((0, 1), (2, 1), END) is less than ((0, 1), END), for (2, 1) stands ahead of whatever may follow.
END = (1000,)
NO_LEAD = (FAR, (END,))


class Leads:
    """The first leads, pairs (cost, windows and END), to each column and each state in which a text may stand there."""

    def __init__(self, ways):
        self._ways = ways
        self._spelling = ways.spelling
        self._states = [ways.spelling.states_of(at) for at in range(len(ways.spelling.known))]
        # By the number of a shape: (beginning, state, price) of those beginnings that stay some by its sign.
        self._grown = _grown_by(ways.spelling.known)
        # By the column, then by the state.
        self.ahead = [[NO_LEAD for _ in ways.spelling.beginnings] for _ in range(len(ways.windows) + 1)]
        self.ahead[0][0] = (0, (END,))
        # By the window that they end with: pairs (state, lead), of which none leads to the same state as another.
        self.ending = {}
        # By the column: the first of all readings whose windows all stand ahead of it. Of two leads to one state the
        # one that is kept is first with any window behind it, while the other one may be first with none.
        self.over = []
        for column in range(len(ways.windows)):
            self._end_at(column)
            self._go_on_from(column)

    def _end_at(self, column):
        arrived = [self.ahead[column][first] for first, _ in self._states]
        self.over.append(min(self.over[-1:] + [(cost, windows[:-1]) for cost, windows in arrived]))

    def _go_on_from(self, column):
        here = self.ahead[column]
        _keep_first(self.ahead[column + 1], list(zip(self._spelling.behind_white, here)))
        # What follows a window is the same however many white columns stand ahead of it.
        firsts = [min(here[first:behind]) for first, behind in self._states]
        # The beginning of a known word is taken for a strange one, too: no reading is made cheaper by that.
        prices = self._spelling.strange_prices
        strange = min([(cost + price, windows) for (cost, windows), price in zip(firsts, prices)])
        for window, wide, more in self._ways.windows[column]:
            leads = [(self._spelling.strange_state, _set_behind(strange, window, more))]
            for at, state, price in self._grown.get(window[1], []):
                leads.append((state, _set_behind(firsts[at], window, more + price)))
            self.ending[window] = leads
            _keep_first(self.ahead[column + wide], leads)


def _grown_by(known):
    grown = {}
    for at, states in enumerate(known):
        for number, (state, price) in states.items():
            grown.setdefault(number, []).append((at, state, price))
    return grown


def _keep_first(there, leads):
    for state, lead in leads:
        if lead < there[state]:
            there[state] = lead


def _set_behind(lead, window, more):
    cost, windows = lead
    return cost + more, windows[:-1] + (window, END)


def joined(lead, way):
    """Tell the way from end to end that a lead and the way behind it are."""
    cost, windows = lead
    more, behind = way
    return cost + more, windows[:-1] + behind
