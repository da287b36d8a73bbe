"""Words: the text of a reading, lexicons of known words, and readings weighed by dots and by words."""

from dotread.alphabets import is_sign
from dotread.errors import NoWord, TooMany
from dotread.kinds import is_between, is_list, is_text
from dotread.reading import MOST_LINE_COLUMNS, cost, want_line, want_next, want_reading
from dotread.spelling import Spelling
from dotread.ways import Ways

MOST_WORDS = 16
MOST_SIGNS = 8
MOST_STRANGE = 99
MOST_BLANK = 20


def text_of(alphabet, reading, *, blank=3):
    """Tell the signs of a reading's windows, a blank where so many white columns or more stand between two."""
    return " ".join([word for word, _, _ in words_of(alphabet, reading, blank=blank)])


def words_of(alphabet, reading, *, blank=3):
    """Tell the list of a reading's words, triples (word, first, behind).

    These are the numbers of the word's first window and of the one behind its last window.
    """
    want_reading(alphabet, MOST_LINE_COLUMNS, reading)
    if not is_between(blank, 1, MOST_BLANK):
        raise TooMany(MOST_BLANK)
    signs = [sign for sign, _ in alphabet.shapes()]
    starts = [at for at in range(len(reading)) if at == 0 or _white_ahead(alphabet, reading, at) >= blank]
    ends = starts[1:] + [len(reading)]
    return [("".join([signs[number] for _, number in reading[first:behind]]), first, behind)
            for first, behind in zip(starts, ends)]


def _white_ahead(alphabet, reading, at):
    column, number = reading[at - 1]
    return reading[at][0] - column - alphabet.wide(number)


class Lexicon:
    """Known words, what each strange one costs, and how many white columns part two words; it never changes."""

    def __init__(self, words, *, strange=2, blank=3):
        if not is_list(words):
            raise NoWord(None)
        for at, word in enumerate(words):
            if at == MOST_WORDS:
                raise NoWord(None)
            if not is_word(word) or word in words[:at]:
                raise NoWord(word)
        if not is_between(strange, 0, MOST_STRANGE) or not is_between(blank, 1, MOST_BLANK):
            raise NoWord(None)
        self._words = sorted(words)
        self.strange = strange
        self.blank = blank

    def words(self):
        """Tell the rising list of the words."""
        return list(self._words)

    def has(self, word):
        """Tell whether a thing, of any kind, is one of the words."""
        return is_text(word) and word in self._words

    def with_word(self, word):
        """Tell the lexicon that has this word, too."""
        return Lexicon([*self._words, word], strange=self.strange, blank=self.blank)

    def without_word(self, word):
        """Tell the lexicon in which this word is gone."""
        if not self.has(word):
            raise NoWord(word)
        return Lexicon([other for other in self._words if other != word], strange=self.strange, blank=self.blank)

    def __eq__(self, other):
        return (isinstance(other, Lexicon) and self._words == other._words
                and self.strange == other.strange and self.blank == other.blank)


def is_word(thing):
    """Tell whether a thing, of any kind, is a text of 1 to 8 signs."""
    return is_text(thing) and 1 <= len(thing) <= MOST_SIGNS and all([is_sign(sign) for sign in thing])


def cost_by(alphabet, lexicon, line, reading):
    """Tell a reading's cost: its dots, and what its strange words cost."""
    dots = cost(alphabet, line, reading)
    words = words_of(alphabet, reading, blank=lexicon.blank)
    return dots + lexicon.strange * len([word for word, _, _ in words if not lexicon.has(word)])


def read_by(alphabet, lexicon, line):
    """Tell the first of all readings by such costs, a pair (cost, reading)."""
    want_line(alphabet, line)
    return ways_by(alphabet, lexicon, line).first()


def next_by(alphabet, lexicon, line, k):
    """Tell the list of the first k of all readings by such costs, pairs (cost, reading)."""
    want_line(alphabet, line)
    want_next(k)
    return ways_by(alphabet, lexicon, line).first_ones(k)


def ways_by(alphabet, lexicon, line):
    """Tell the ways through what is a line, by dots and by words."""
    return Ways(alphabet, line, spelling_by(alphabet, lexicon))


def spelling_by(alphabet, lexicon):
    """Tell what the words of a lexicon cost, spelled with the signs of an alphabet."""
    return Spelling(alphabet, lexicon.words(), lexicon.strange, lexicon.blank)
