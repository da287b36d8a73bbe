"""Alphabets: the shapes of signs, and lines of text that are set with them."""

from dotread.dots import MOST_COLUMNS, dots, is_picture, size
from dotread.errors import NoLine, NoShape, NoSign
from dotread.kinds import is_between, is_list, is_text, is_tuple

MOST_HIGH = 9
MOST_WIDE = 8
MOST_SHAPES = 16
MOST_GAP = 9
MOST_BLANK = 20


class Alphabet:
    """Shapes, pairs (sign, picture), all of one height and numbered from 0; it never changes."""

    def __init__(self, high, shapes):
        if not is_between(high, 1, MOST_HIGH):
            raise NoShape(-1)
        if not is_list(shapes) or len(shapes) == 0:
            raise NoShape(0)
        for at, shape in enumerate(shapes):
            if at == MOST_SHAPES or not _is_shape(shape, high) or _is_picture_of(shape[1], shapes[:at]):
                raise NoShape(at)
        self._high = high
        self._shapes = tuple(shapes)

    def high(self):
        """Tell how many rows each shape has."""
        return self._high

    def shapes(self):
        """Tell the list of the shapes."""
        return list(self._shapes)

    def signs(self):
        """Tell the rising list of the signs, each once."""
        return sorted({sign for sign, _ in self._shapes})

    def wide(self, number):
        """Tell how many columns the shape of this number has."""
        self._want_number(number)
        return size(self._shapes[number][1])[1]

    def with_shape(self, sign, picture):
        """Tell the alphabet that has one shape more, as its last one."""
        return Alphabet(self._high, [*self._shapes, (sign, picture)])

    def without(self, number):
        """Tell the alphabet in which the shape of this number is gone."""
        self._want_number(number)
        # Where the only shape would go none is left, and Alphabet tells NoShape(0).
        return Alphabet(self._high, self._shapes[:number] + self._shapes[number + 1:])

    def _want_number(self, number):
        if not is_between(number, 0, len(self._shapes) - 1):
            raise NoShape(number)

    def __eq__(self, other):
        return isinstance(other, Alphabet) and self._high == other._high and self._shapes == other._shapes

    def __len__(self):
        return len(self._shapes)


def is_sign(thing):
    """Tell whether a thing, of any kind, is a sign."""
    return is_text(thing) and len(thing) == 1 and "!" <= thing <= "~"


def _is_shape(thing, high):
    if not is_tuple(thing, 2) or not is_sign(thing[0]) or not is_picture(thing[1]):
        return False
    rows, columns = size(thing[1])
    return rows == high and columns <= MOST_WIDE and len(dots(thing[1])) > 0


def _is_picture_of(picture, shapes):
    return any([picture == shape[1] for shape in shapes])


def set_line(alphabet, text, *, gap=1, blank=3):
    """Tell the picture of a text: the first shape of each sign, side by side with white columns between."""
    drawn = _first_pictures(alphabet)
    words = _words_set(drawn, text)
    if not words:
        raise NoLine("no sign is left of the text")
    if not is_between(gap, 0, MOST_GAP) or not is_between(blank, 1, MOST_BLANK):
        raise NoLine("a gap is from 0 to 9 columns wide, a blank from 1 to 20")
    rows = [_row_set(drawn, words, row, gap, blank) for row in range(alphabet.high())]
    if len(rows[0]) > MOST_COLUMNS:
        raise NoLine("the line would have too many columns")
    return tuple(rows)


def _first_pictures(alphabet):
    drawn = {}
    for sign, picture in alphabet.shapes():
        if sign not in drawn:
            drawn[sign] = picture
    return drawn


def _words_set(drawn, text):
    if not is_text(text):
        return []
    for sign in text:
        if sign != " " and sign not in drawn:
            raise NoSign(sign)
    return [word for word in text.split(" ") if word]


def _row_set(drawn, words, row, gap, blank):
    narrow = "." * gap
    broad = "." * blank
    return broad.join([narrow.join([drawn[sign][row] for sign in word]) for word in words])
