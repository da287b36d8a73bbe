"""What a text costs by its words, as it grows sign by sign and column by column."""

# The beginning of a strange word: no sign is a blank, so no known word begins so.
STRANGE = " "


class Spelling:
    """The states in which a text may stand, numbered from 0: what leads from one to another, and what it costs.

    State 0 stands between words. Each other one stands in a word: behind a beginning of it that may yet become a known
    word, or one that can't, and behind so many white columns, fewer than a blank.
    A word is paid as if it were over with each of its signs: the next sign pays the difference, or gives it back.
    """

    def __init__(self, alphabet, words, strange, blank):
        begun = ["", STRANGE, *sorted({word[:end] for word in words for end in range(1, len(word) + 1)})]
        inside = range(1, len(begun))
        # By the state: the number of the beginning behind which it stands.
        self.beginnings = [0] + [at for at in inside for _ in range(blank)]
        # By the state: the state behind one white column more.
        self.behind_white = [0] + [_state(at, white + 1, blank) for at in inside for white in range(blank)]
        # By the number of a beginning, then by that of a shape: the state behind its sign, and what the sign costs.
        self.behind_shape = _steps(begun, alphabet, words, strange, blank)


def _state(at, white, blank):
    if white == blank:
        return 0
    return 1 + (at - 1) * blank + white


def _steps(begun, alphabet, words, strange, blank):
    numbers = {beginning: at for at, beginning in enumerate(begun)}
    prices = [0 if beginning == "" or beginning in words else strange for beginning in begun]
    steps = []
    for at, beginning in enumerate(begun):
        grown = [numbers.get(beginning + sign, numbers[STRANGE]) for sign, _ in alphabet.shapes()]
        steps.append([(_state(to, 0, blank), prices[to] - prices[at]) for to in grown])
    return steps
