"""What a line costs by dots: where it is left white, and how much more or less by each window on it."""

from dotread.dots import columns_of


def white_cost(line):
    """Tell what the line costs where no window is set: its dots."""
    return sum([row.count("#") for row in line])


def window_costs(alphabet, line):
    """Tell for each column the list of (window, wide, more) of all windows that begin there, within the line.

    More is what the line costs more by this window than white there, below 0 where it costs less.
    """
    counts = dot_counts(alphabet.high())
    drawn = column_numbers(line)
    shapes = [column_numbers(picture) for _, picture in alphabet.shapes()]
    return [_windows_at(column, drawn, shapes, counts) for column in range(len(drawn))]


def _windows_at(column, drawn, shapes, counts):
    windows = []
    for number, shape in enumerate(shapes):
        behind = column + len(shape)
        if behind <= len(drawn):
            more = sum([counts[one ^ other] - counts[other] for one, other in zip(shape, drawn[column:behind])])
            windows.append(((column, number), len(shape), more))
    return windows


def column_numbers(picture):
    """Tell each column as a number of which each bit is a place: two are then compared at once."""
    return [_number_of(column) for column in columns_of(picture)]


def _number_of(column):
    number = 0
    for sign in column:
        number = number * 2 + (1 if sign == "#" else 0)
    return number


def dot_counts(high):
    """Tell for each such number of so many places how many dots it has."""
    counts = [0]
    for _ in range(high):
        counts = counts + [dots + 1 for dots in counts]
    return counts
