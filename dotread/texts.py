"""Texts: alphabets, pictures and the places of signs, written row by row and read back."""

from dotread.alphabets import MOST_SHAPES, MOST_WIDE, Alphabet, is_sign
from dotread.dots import MOST_COLUMNS, MOST_ROWS, size, want_picture
from dotread.errors import NoText
from dotread.figures import number_in
from dotread.kinds import is_text
from dotread.reading import fit, want_line, want_reading


def alphabet_text(alphabet):
    """Tell the text of an alphabet: its height, then of each shape its sign and its rows."""
    rows = [f"high {alphabet.high()}"]
    for sign, picture in alphabet.shapes():
        rows = rows + [f"sign {sign}", *picture]
    return _ended(rows)


def picture_text(picture):
    """Tell the text of a picture: its rows."""
    want_picture(picture)
    return _ended(picture)


def places_text(alphabet, line, reading):
    """Tell the text of the places of a reading: of each window its column, its columns, its cost and its sign."""
    want_line(alphabet, line)
    want_reading(alphabet, size(line)[1], reading)
    shapes = alphabet.shapes()
    return _ended([f"{column} {alphabet.wide(number)} {fit(alphabet, line, column, number)} {shapes[number][0]}"
                   for column, number in reading])


def _ended(rows):
    return "".join([row + "\n" for row in rows])


def read_alphabet(text):
    """Tell the alphabet that is written so."""
    rows = _rows_of(text)
    if not rows or not _is_high(rows[0]):
        raise NoText(0)
    high = int(rows[0][5])
    shapes = []
    for at in range(1, len(rows), 1 + high):
        if len(shapes) == MOST_SHAPES or not _is_sign_row(rows[at]):
            raise NoText(at)
        picture = _picture_below(rows, at, high)
        if _ended(picture).count("#") == 0 or picture in [other for _, other in shapes]:
            raise NoText(at + high)
        shapes.append((rows[at][5], picture))
    if not shapes:
        raise NoText(len(rows))
    return Alphabet(high, shapes)


def _is_high(row):
    return row is not None and len(row) == 6 and row.startswith("high ") and row[5] in "123456789"


def _is_sign_row(row):
    return row is not None and len(row) == 6 and row.startswith("sign ") and is_sign(row[5])


def _picture_below(rows, at, high):
    """Tell the picture of so many rows that stands below the row at this number."""
    drawn = rows[at + 1:at + 1 + high]
    for below, row in enumerate(drawn):
        if not _is_row(row, drawn[0], MOST_WIDE):
            raise NoText(at + 1 + below)
    if len(drawn) < high:
        raise NoText(len(rows))
    return tuple(drawn)


def read_picture(text):
    """Tell the picture that is written so."""
    rows = _rows_of(text)
    for at, row in enumerate(rows):
        if at == MOST_ROWS or not _is_row(row, rows[0], MOST_COLUMNS):
            raise NoText(at)
    if not rows:
        raise NoText(0)
    return tuple(rows)


def _is_row(row, first, most):
    """Tell whether a row, or None, is one of a picture of at most so many columns that begins with the first one."""
    if row is None or not 1 <= len(row) <= most or len(row) != len(first):
        return False
    return row.count("#") + row.count(".") == len(row)


def read_places(text):
    """Tell the list of the tuples (column, wide, cost, sign) that are written so."""
    found = []
    for at, row in enumerate(_rows_of(text)):
        place = _place_in(row)
        if place is None:
            raise NoText(at)
        found.append(place)
    return found


def _place_in(row):
    words = [] if row is None else row.split(" ")
    if len(words) != 4 or not is_sign(words[3]):
        return None
    column, wide, cost = [number_in(word) for word in words[:3]]
    if column is None or wide is None or cost is None:
        return None
    return column, wide, cost, words[3]


def _rows_of(text):
    """Tell the rows of a text; None in the place of a last one that lacks its line end, for it is no row at all."""
    if not is_text(text):
        raise NoText(0)
    rows = text.split("\n")
    last = rows.pop()
    return rows if last == "" else rows + [None]
