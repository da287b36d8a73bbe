"""What a text costs by its words, as it grows sign by sign and column by column."""


class Spelling:
    """The states in which a text may stand, numbered from 0: what leads from one to another, and what it costs.

    State 0 stands between words. Each other one stands in a word: behind a beginning of it that may yet become a known
    word, or one that can't (a strange one), and behind so many white columns, fewer than a blank.
    A word is paid as if it were over with each of its signs: the next sign pays the difference, or gives it back.
    """

    def __init__(self, alphabet, words, strange, blank):
        # A beginning is told by its number: 0 is none, the last one stands for all that are strange.
        begun = ["", *sorted({word[:end] for word in words for end in range(1, len(word) + 1)})]
        inside = range(1, len(begun) + 1)
        self.blank = blank
        # By the state: the number of the beginning behind which it stands.
        self.beginnings = [0] + [at for at in inside for _ in range(blank)]
        # By the state: the state behind one white column more.
        self.behind_white = [0] + [_state(at, white + 1, blank) for at in inside for white in range(blank)]
        prices = [0 if beginning == "" or beginning in words else strange for beginning in begun] + [strange]
        # The state behind a sign by which a beginning becomes strange, and by the beginning what this sign costs.
        self.strange_state = _state(len(begun), 0, blank)
        self.strange_prices = [strange - price for price in prices]
        # By the beginning: (state, price) by the number of each shape by whose sign it stays the beginning of a word.
        self.known = [_known_from(beginning, begun, alphabet, prices, blank) for beginning in begun] + [{}]

    def step(self, beginning, number):
        """Tell the state that a shape leads to from a beginning, and what its sign costs."""
        return self.known[beginning].get(number, (self.strange_state, self.strange_prices[beginning]))

    def states_of(self, beginning):
        """Tell the first state that stands behind this beginning, and the one behind the last such state."""
        if beginning == 0:
            return 0, 1
        first = _state(beginning, 0, self.blank)
        return first, first + self.blank


def _state(at, white, blank):
    if white == blank:
        return 0
    return 1 + (at - 1) * blank + white


def _known_from(beginning, begun, alphabet, prices, blank):
    numbers = {other: at for at, other in enumerate(begun)}
    known = {}
    for number, (sign, _) in enumerate(alphabet.shapes()):
        if beginning + sign in numbers:
            to = numbers[beginning + sign]
            known[number] = (_state(to, 0, blank), prices[to] - prices[numbers[beginning]])
    return known
