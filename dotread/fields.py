"""Fields of a page, as white bands part it, and the lines that stand in them."""

from dotread.alphabets import MOST_HIGH
from dotread.dots import columns_of, cut_out, want_picture
from dotread.errors import NoLine, NoPlace, TooMany
from dotread.kinds import is_between, is_tuple
from dotread.reading import MOST_LINE_COLUMNS

MOST_BAND = 60


def fields(picture, *, rows=2, columns=4):
    """Tell the list of boxes (top, left, high, wide) that bands of so many white rows or columns part."""
    want_picture(picture)
    if not is_between(rows, 1, MOST_BAND) or not is_between(columns, 1, MOST_BAND):
        raise TooMany(MOST_BAND)
    across = columns_of(picture)
    boxes = [(0, 0, len(picture), len(across))]
    ahead = []
    while boxes != ahead:
        ahead = boxes
        by_rows = [part for box in boxes for part in _parted(picture, box, rows)]
        boxes = [_flipped(part) for box in by_rows for part in _parted(across, _flipped(box), columns)]
    return boxes


def _flipped(box):
    top, left, high, wide = box
    return left, top, wide, high


def _parted(page, box, least):
    """Tell the boxes that bands of so many white rows leave of a box, each trimmed to its dots."""
    top, left, high, wide = box
    rows = [row[left:left + wide] for row in page[top:top + high]]
    parts = []
    for start, behind in _stretches([at for at, row in enumerate(rows) if "#" in row], least):
        first, last = _dotted_columns(rows[start:behind])
        parts.append((top + start, left + first, behind - start, last + 1 - first))
    return parts


def _stretches(numbers, least):
    """Tell pairs (start, behind) of the rising numbers that stand together: fewer than so many lack between."""
    if not numbers:
        return []
    cuts = [at for at in range(1, len(numbers)) if numbers[at] - numbers[at - 1] > least]
    return [(numbers[start], numbers[behind - 1] + 1) for start, behind in zip([0] + cuts, cuts + [len(numbers)])]


def _dotted_columns(rows):
    """Tell the first and the last column that has a dot, of rows of which one has."""
    dotted = [row for row in rows if "#" in row]
    return min([row.find("#") for row in dotted]), max([row.rfind("#") for row in dotted])


def lines_of(picture, box, *, high, pitch, above=0):
    """Tell the boxes of the lines in a box, each of so many rows, pitch rows below one another."""
    _want_box(picture, box)
    if not is_between(high, 1, MOST_HIGH) or not is_between(pitch, high, MOST_BAND):
        raise TooMany(MOST_BAND)
    if not is_between(above, 0, high - 1):
        raise TooMany(MOST_BAND)
    top, left, rows, wide = box
    starts = range(top - above, top + rows, pitch)
    lines = [_line_box(box, start, start + high) for start in starts]
    return [line for line in lines if _has_dots(cut_out(picture, *line))]


def _line_box(box, start, behind):
    top, left, high, wide = box
    first = max(top, start)
    return first, left, min(top + high, behind) - first, wide


def _has_dots(rows):
    return any(["#" in row for row in rows])


def line_at(picture, box, *, high, over=0):
    """Tell the line that stands in a box: trimmed at both ends, with white rows over it and below to so many rows."""
    _want_box(picture, box)
    part = cut_out(picture, *box)
    if not is_between(high, 1, MOST_HIGH) or not is_between(over, 0, high - len(part)):
        raise NoLine("the rows of the box and those over them are more than the line has")
    if not _has_dots(part):
        raise NoLine("a white part is no line")
    first, last = _dotted_columns(part)
    if last + 1 - first > MOST_LINE_COLUMNS:
        raise NoLine("a line has at most 60 columns")
    white = "." * (last + 1 - first)
    below = high - over - len(part)
    return tuple([white] * over + [row[first:last + 1] for row in part] + [white] * below)


def _want_box(picture, thing):
    want_picture(picture)
    if not is_tuple(thing, 4):
        raise NoPlace("a box is a tuple (top, left, high, wide)")
    cut_out(picture, *thing)
