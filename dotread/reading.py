"""Readings of a line: windows of shapes, and white between them, weighed dot by dot."""

from dotread.dots import cut_out, is_picture, size, unlike
from dotread.errors import NoLine, NoPlace, NoReading, TooMany
from dotread.kinds import is_between, is_tuple
from dotread.spelling import Spelling
from dotread.ways import Ways

MOST_LINE_COLUMNS = 60
MOST_NEXT = 20


def fit(alphabet, line, column, number):
    """Tell a window's cost: at how many places it is unlike the shape."""
    want_window(alphabet, line, column, number)
    part = cut_out(line, 0, column, alphabet.high(), alphabet.wide(number))
    return unlike(part, alphabet.shapes()[number][1])


def cost(alphabet, line, reading):
    """Tell a reading's cost: at how many places the line is unlike the one that it sets."""
    want_line(alphabet, line)
    return unlike(line, drawn(alphabet, size(line)[1], reading))


def read(alphabet, line):
    """Tell the first of all readings, a pair (cost, reading)."""
    want_line(alphabet, line)
    return _ways(alphabet, line).first()


def next_ones(alphabet, line, k):
    """Tell the list of the first k of all readings, pairs (cost, reading)."""
    want_line(alphabet, line)
    want_next(k)
    return _ways(alphabet, line).first_ones(k)


def drawn(alphabet, wide, reading):
    """Tell the picture of a line of so many columns that is set by the reading."""
    if not is_between(wide, 1, MOST_LINE_COLUMNS):
        raise NoLine("a line has 1 to 60 columns")
    want_reading(alphabet, wide, reading)
    pictures = [picture for _, picture in alphabet.shapes()]
    return tuple([_row_drawn(pictures, wide, reading, row) for row in range(alphabet.high())])


def _row_drawn(pictures, wide, reading, row):
    text = ""
    for column, number in reading:
        text = text.ljust(column, ".") + pictures[number][row]
    return text.ljust(wide, ".")


def want_line(alphabet, thing):
    """Refuse a thing, of any kind, that is no line for the alphabet."""
    if not is_picture(thing) or size(thing)[0] != alphabet.high() or size(thing)[1] > MOST_LINE_COLUMNS:
        raise NoLine("a line is a picture as high as the alphabet, of at most 60 columns")


def want_window(alphabet, line, column, number):
    """Refuse, of any kind, what is no line, then what is no shape's number, then a column where it isn't within."""
    want_line(alphabet, line)
    wide = alphabet.wide(number)
    if not is_between(column, 0, size(line)[1] - wide):
        raise NoPlace("this window is not within the line")


def want_next(thing):
    """Refuse a thing, of any kind, that doesn't say how many of the next readings are asked for."""
    if not is_between(thing, 1, MOST_NEXT):
        raise TooMany(MOST_NEXT)


def want_reading(alphabet, columns, thing):
    """Refuse a thing, of any kind, that is no reading of lines of so many columns."""
    if type(thing) != tuple:
        raise NoReading("a reading is a tuple of windows")
    edge = 0
    for window in thing:
        if not _is_window(alphabet, window, edge, columns):
            raise NoReading("the windows are pairs (column, number), rising, none over another, within the line")
        edge = window[0] + alphabet.wide(window[1])


def _is_window(alphabet, thing, edge, columns):
    if not is_tuple(thing, 2) or not is_between(thing[1], 0, len(alphabet) - 1):
        return False
    return is_between(thing[0], edge, columns - alphabet.wide(thing[1]))


def _ways(alphabet, line):
    # Where no word is known and a strange one costs nothing, a reading costs its dots alone.
    return Ways(alphabet, line, Spelling(alphabet, (), 0, 1))
