"""Doubts: how much more a reading costs that hasn't a window of the best one."""

from dotread.crossings import Crossings
from dotread.reading import want_line, want_window
from dotread.words import ways_by, words_of

DOUBTFUL = "?"


def without_window(alphabet, lexicon, line, column, number):
    """Tell the first of all readings that haven't this window, a pair (cost, reading)."""
    want_window(alphabet, line, column, number)
    return Crossings(ways_by(alphabet, lexicon, line)).first_without((column, number))


def with_window(alphabet, lexicon, line, column, number):
    """Tell the first of all readings that have this window, a pair (cost, reading)."""
    want_window(alphabet, line, column, number)
    return Crossings(ways_by(alphabet, lexicon, line)).first_with((column, number))


def doubts(alphabet, lexicon, line):
    """Tell for each window of the first reading (more, reading): the first one without it, and what that costs more."""
    want_line(alphabet, line)
    return _doubts_of(ways_by(alphabet, lexicon, line))


def sure(alphabet, lexicon, line, least):
    """Tell the text of the first reading, ? in the place of each sign whose doubt is less than least."""
    want_line(alphabet, line)
    ways = ways_by(alphabet, lexicon, line)
    _, reading = ways.first()
    unsure = [more < least for more, _ in _doubts_of(ways)]
    words = words_of(alphabet, reading, blank=lexicon.blank)
    return " ".join([_sure_word(word, unsure[first:behind]) for word, first, behind in words])


def _sure_word(word, unsure):
    return "".join([DOUBTFUL if hidden else sign for sign, hidden in zip(word, unsure)])


def _doubts_of(ways):
    cost, reading = ways.first()
    crossings = Crossings(ways)
    found = []
    for window in reading:
        dearer, other = crossings.first_without(window)
        found.append((dearer - cost, other))
    return found
