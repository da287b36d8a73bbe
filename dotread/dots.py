"""Pictures of dots: tuples of rows, texts of the signs # (a dot) and . (white)."""

from dotread.errors import NoPicture, NoPlace
from dotread.kinds import is_between, is_list, is_number, is_text, is_tuple

MOST_ROWS = 60
MOST_COLUMNS = 120
TURNED_SIGNS = {"#": ".", ".": "#"}


def is_picture(thing):
    """Tell whether a thing, of any kind, is a picture."""
    if type(thing) != tuple or not 1 <= len(thing) <= MOST_ROWS:
        return False
    if not all([_is_row(row) for row in thing]):
        return False
    return all([len(row) == len(thing[0]) for row in thing])


def _is_row(thing):
    if not is_text(thing) or not 1 <= len(thing) <= MOST_COLUMNS:
        return False
    return thing.count("#") + thing.count(".") == len(thing)


def want_picture(thing):
    """Refuse a thing, of any kind, that is no picture."""
    if not is_picture(thing):
        raise NoPicture("a picture is a tuple of 1 to 60 rows, each of 1 to 120 signs # and .")


def size(picture):
    """Tell the pair (rows, columns)."""
    want_picture(picture)
    return len(picture), len(picture[0])


def dots(picture):
    """Tell the rising list of the places of the dots."""
    want_picture(picture)
    return [(at, column) for at, row in enumerate(picture) for column, sign in enumerate(row) if sign == "#"]


def cut_out(picture, top, left, high, wide):
    """Tell the part of so many rows and columns that begins at the place (top, left)."""
    rows, columns = size(picture)
    if not _is_stretch(top, high, rows) or not _is_stretch(left, wide, columns):
        raise NoPlace("this part is not within the picture")
    return tuple([row[left:left + wide] for row in picture[top:top + high]])


def _is_stretch(start, many, whole):
    return is_number(many) and many >= 1 and is_between(start, 0, whole - many)


def turned(picture, times):
    """Tell the picture turned by so many quarters to the right."""
    columns = size(picture)[1]
    if not is_number(times):
        raise NoPlace("a picture is turned by a number of quarters")
    quarters = times % 4
    if quarters % 2 == 1 and columns > MOST_ROWS:
        raise NoPlace("the turned picture would have too many rows")
    made = picture
    for _ in range(quarters):
        made = _turned_once(made)
    return made


def _turned_once(rows):
    return tuple(columns_of(rows[::-1]))


def columns_of(rows):
    """Tell the list of the columns of texts of one length, each from above."""
    return ["".join(signs) for signs in zip(*rows)]


def shifted(picture, steps):
    """Tell the picture with each row moved to the right by its number of steps, to the left where below 0."""
    rows = size(picture)[0]
    if not is_list(steps) or len(steps) != rows or not all([is_number(step) for step in steps]):
        raise NoPlace("steps are a list of a number for each row")
    return tuple([_shifted_row(row, step) for row, step in zip(picture, steps)])


def _shifted_row(row, step):
    # A white row stays as it is however far it goes: a great step is never written out.
    if "#" not in row:
        return row
    if row.find("#") + step < 0 or row.rfind("#") + step >= len(row):
        raise NoPlace("a dot would leave the picture")
    if step < 0:
        return row[-step:] + "." * -step
    return "." * step + row[:len(row) - step]


def pieces(picture):
    """Tell the rising list of the pieces, each a rising list of places."""
    found = []
    seen = set()
    for place in dots(picture):
        if place not in seen:
            piece = _piece_from(picture, place)
            found.append(piece)
            for member in piece:
                seen.add(member)
    return found


def _piece_from(picture, start):
    reached = set()
    reached.add(start)
    waiting = [start]
    while waiting:
        here = waiting.pop()
        for place in _dots_around(picture, here):
            if place not in reached:
                reached.add(place)
                waiting.append(place)
    return sorted(reached)


def _dots_around(picture, place):
    row, column = place
    rows = range(max(0, row - 1), min(len(picture), row + 2))
    columns = range(max(0, column - 1), min(len(picture[0]), column + 2))
    return [(near, beside) for near in rows for beside in columns if picture[near][beside] == "#"]


def cleaned(picture, most):
    """Tell the picture with all pieces of at most so many dots made white."""
    want_picture(picture)
    if not is_number(most):
        raise NoPlace("pieces are cleaned up to a number of dots")
    return _with_signs_turned(picture, [place for piece in pieces(picture) if len(piece) <= most for place in piece])


def unlike(one, other):
    """Tell at how many places two pictures of one size differ."""
    want_picture(one)
    want_picture(other)
    if size(one) != size(other):
        raise NoPlace("the pictures are of unlike sizes")
    return sum([_unlike_signs(row, beside) for row, beside in zip(one, other)])


def _unlike_signs(row, other):
    return sum([1 for sign, beside in zip(row, other) if sign != beside])


def with_turned(picture, places):
    """Tell the picture with dots made white and white made dots, once for each time that a place is told."""
    rows, columns = size(picture)
    if not is_list(places) or not all([_is_place(place, rows, columns) for place in places]):
        raise NoPlace("these are not places of the picture")
    return _with_signs_turned(picture, places)


def _is_place(thing, rows, columns):
    return is_tuple(thing, 2) and is_between(thing[0], 0, rows - 1) and is_between(thing[1], 0, columns - 1)


def _with_signs_turned(picture, places):
    grid = [list(row) for row in picture]
    for row, column in places:
        grid[row][column] = TURNED_SIGNS[grid[row][column]]
    return tuple(["".join(signs) for signs in grid])
