"""Tables: the cells that ruled lines part, tables ruled anew, and cells filled with pictures."""

from dotread.dots import MOST_COLUMNS, MOST_ROWS, columns_of, is_picture, size
from dotread.errors import NoPlace, NoTable, TooMany
from dotread.kinds import is_between, is_list, is_tuple

LEAST_RULE = 3
MOST_RULE = 30
MOST_SPACES = 5
MOST_SPACE = 40


def cells(picture, *, least=10):
    """Tell the list of the cells (row, column, rows, columns, box) of a table."""
    _want_least(least)
    return _cells_of(picture, least)


def _want_least(thing):
    if not is_between(thing, LEAST_RULE, MOST_RULE):
        raise TooMany(MOST_RULE)


def _cells_of(picture, least):
    if not _is_ruled_around(picture, least):
        raise NoTable("the first and last row and column of a table are dots alone")
    grid = Grid(picture, least)
    return sorted([grid.cell(spaces) for spaces in grid.joined()])


def _is_ruled_around(thing, least):
    if not is_picture(thing) or len(thing) < least or len(thing[0]) < least:
        return False
    columns = columns_of(thing)
    return all(["." not in edge for edge in (thing[0], thing[-1], columns[0], columns[-1])])


class Grid:
    """The rules of a table and the spaces between them, each a pair (row, column) of the grid."""

    def __init__(self, picture, least):
        self._rows = list(picture)
        self._columns = columns_of(picture)
        self._row_rules = _rules(self._rows, least)
        self._column_rules = _rules(self._columns, least)

    def joined(self):
        """Tell the list of all lists of spaces that no rule parts."""
        found = []
        seen = set()
        for row in range(len(self._row_rules) - 1):
            for column in range(len(self._column_rules) - 1):
                if (row, column) not in seen:
                    spaces = self._reached_from((row, column))
                    found.append(spaces)
                    for space in spaces:
                        seen.add(space)
        return found

    def _reached_from(self, start):
        reached = set()
        reached.add(start)
        waiting = [start]
        while waiting:
            row, column = waiting.pop()
            for space in self._beside(row, column):
                if space not in reached:
                    reached.add(space)
                    waiting.append(space)
        return sorted(reached)

    def _beside(self, row, column):
        """Tell the spaces that no stretch of a rule parts from this one."""
        # The rules around the table are dots alone, so none of these lies without.
        over, below = self._parts_over(row, column), self._parts_over(row + 1, column)
        left, right = self._parts_left(row, column), self._parts_left(row, column + 1)
        beside = [((row - 1, column), over), ((row + 1, column), below),
                  ((row, column - 1), left), ((row, column + 1), right)]
        return [space for space, parts in beside if not parts]

    def _parts_over(self, row, column):
        return _is_parted(self._rows[self._row_rules[row]], self._column_rules, column)

    def _parts_left(self, row, column):
        return _is_parted(self._columns[self._column_rules[column]], self._row_rules, row)

    def cell(self, spaces):
        """Tell the cell of these spaces, (row, column, rows, columns, box)."""
        row, column = spaces[0]
        rows = spaces[-1][0] + 1 - row
        columns = spaces[-1][1] + 1 - column
        if spaces != [(row + down, column + along) for down in range(rows) for along in range(columns)]:
            raise NoTable("a cell is no rectangle")
        top, high = _inside(self._row_rules, row, rows)
        left, wide = _inside(self._column_rules, column, columns)
        return row, column, rows, columns, (top, left, high, wide)


def _rules(lines, least):
    """Tell the rising list of the lines in which so many dots stand together."""
    rules = [at for at, line in enumerate(lines) if "#" * least in line]
    if any([behind - rule == 1 for rule, behind in zip(rules, rules[1:])]):
        raise NoTable("two rules stand side by side")
    return rules


def _is_parted(rule, across, space):
    """Tell whether the stretch of a rule along a space is all dots."""
    return "." not in rule[across[space] + 1:across[space + 1]]


def _inside(rules, first, many):
    start = rules[first] + 1
    return start, rules[first + many] - start


def ruled(heights, widths, spans, *, least=10):
    """Tell the picture of a table with spaces of these sizes, each span (row, column, rows, columns) one cell of it."""
    _want_least(least)
    if not _are_sizes(heights, least, MOST_ROWS) or not _are_sizes(widths, least, MOST_COLUMNS):
        raise NoTable("a table has 1 to 5 spaces each way, from least to 40 wide, and is no greater than a picture")
    wanted = _wanted_cells(len(heights), len(widths), spans)
    made = _drawn(_rules_behind(heights), _rules_behind(widths), wanted)
    if [cell[:4] for cell in _cells_of(made, least)] != wanted:
        raise NoTable("the table so ruled would have other cells")
    return made


def _are_sizes(thing, least, most):
    if not is_list(thing) or not 1 <= len(thing) <= MOST_SPACES:
        return False
    if not all([is_between(length, least, MOST_SPACE) for length in thing]):
        return False
    return sum(thing) + len(thing) + 1 <= most


def _wanted_cells(rows, columns, spans):
    """Tell the rising list of the spans and all other spaces, as (row, column, rows, columns)."""
    if not is_list(spans) or not all([_is_span(span, rows, columns) for span in spans]):
        raise NoTable("a span is a tuple (row, column, rows, columns) within the table")
    spanned = [(row + down, column + along) for row, column, high, wide in spans
               for down in range(high) for along in range(wide)]
    if len(set(spanned)) < len(spanned):
        raise NoTable("one span stands over another")
    alone = [(row, column, 1, 1) for row in range(rows) for column in range(columns) if (row, column) not in spanned]
    return sorted([*spans, *alone])


def _is_span(thing, rows, columns):
    if not is_tuple(thing, 4) or not is_between(thing[0], 0, rows - 1) or not is_between(thing[1], 0, columns - 1):
        return False
    return is_between(thing[2], 1, rows - thing[0]) and is_between(thing[3], 1, columns - thing[1])


def _rules_behind(lengths):
    rules = [0]
    for length in lengths:
        rules.append(rules[-1] + length + 1)
    return rules


def _drawn(row_rules, column_rules, wanted):
    grid = [["#"] * (column_rules[-1] + 1) for _ in range(row_rules[-1] + 1)]
    for row, column, rows, columns in wanted:
        top, high = _inside(row_rules, row, rows)
        left, wide = _inside(column_rules, column, columns)
        for at in range(top, top + high):
            grid[at][left:left + wide] = ["."] * wide
    return tuple(["".join(signs) for signs in grid])


def filled(picture, at, part, *, least=10):
    """Tell the table with a picture drawn into its at-th cell, one row and one column from its top left."""
    _want_least(least)
    found = _cells_of(picture, least)
    if not is_between(at, 0, len(found) - 1) or not is_picture(part):
        raise NoPlace("a cell is filled by its number, with a picture")
    top, left, high, wide = found[at][4]
    if any(["#" in row[left:left + wide] for row in picture[top:top + high]]):
        raise NoPlace("the cell is not white")
    rows, columns = size(part)
    if rows + 2 > high or columns + 2 > wide:
        raise NoPlace("the picture is too great for the cell")
    made = _drawn_into(picture, top + 1, left + 1, part)
    if not _are_cells(made, least, found):
        raise NoPlace("the table so filled would have other cells")
    return made


def _drawn_into(picture, top, left, part):
    rows = list(picture)
    for at, signs in enumerate(part):
        row = rows[top + at]
        rows[top + at] = row[:left] + signs + row[left + len(signs):]
    return tuple(rows)


def _are_cells(picture, least, wanted):
    try:
        return _cells_of(picture, least) == wanted
    except NoTable:
        return False
