"""Promises 0.2 (e) and 8.1: tables, their cells, tables ruled anew and cells filled."""

import itertools
import random
import time
import unittest

from dotread.dots import cut_out, with_turned
from dotread.errors import NoPlace, NoTable, TooMany
from dotread.tables import cells, filled, ruled
from tests.things import full, made, numbers, others, refusal

ONE = ("#####", "#...#", "#...#", "#...#", "#####")


def runs(texts, least):
    """The numbers of the texts in which so many dots stand together, sign by sign."""
    found = []
    for at, text in enumerate(texts):
        together = longest = 0
        for sign in text:
            together = together + 1 if sign == "#" else 0
            longest = max(longest, together)
        if longest >= least:
            found.append(at)
    return found


def told_cells(picture, least):
    """The cells by what the document says, or None: each space has a number, and takes on the least one around it."""
    columns = ["".join(column) for column in zip(*picture)]
    if len(picture) < least or len(columns) < least or "." in picture[0] + picture[-1] + columns[0] + columns[-1]:
        return None
    down, along = runs(picture, least), runs(columns, least)
    if any(rule + 1 in down for rule in down) or any(rule + 1 in along for rule in along):
        return None
    spaces = list(itertools.product(range(len(down) - 1), range(len(along) - 1)))
    name = {space: space for space in spaces}
    for _ in spaces:
        for row, column in spaces:
            right, below = (row, column + 1), (row + 1, column)
            beside = columns[along[column + 1]][down[row] + 1:down[row + 1]]
            if right in name and set(beside) != {"#"}:
                name[row, column] = name[right] = min(name[row, column], name[right])
            under = picture[down[row + 1]][along[column] + 1:along[column + 1]]
            if below in name and set(under) != {"#"}:
                name[row, column] = name[below] = min(name[row, column], name[below])
    found = []
    for first in sorted(set(name.values())):
        together = [space for space in spaces if name[space] == first]
        row, column = first
        rows = max(space[0] for space in together) + 1 - row
        across = max(space[1] for space in together) + 1 - column
        if len(together) != rows * across or min(space[1] for space in together) != column:
            return None
        top, left = down[row] + 1, along[column] + 1
        found.append((row, column, rows, across, (top, left, down[row + rows] - top, along[column + across] - left)))
    return found


def drawn(heights, widths, spans):
    """The picture of a table: rules, and then the insides of the spans white."""
    rows = [sum(heights[:at]) + at for at in range(len(heights) + 1)]
    columns = [sum(widths[:at]) + at for at in range(len(widths) + 1)]
    grid = [["#" if row in rows or column in columns else "." for column in range(columns[-1] + 1)]
            for row in range(rows[-1] + 1)]
    for row, column, high, wide in spans:
        for at in range(rows[row] + 1, rows[row + high]):
            for beside in range(columns[column] + 1, columns[column + wide]):
                grid[at][beside] = "."
    return tuple("".join(signs) for signs in grid)


def any_spans(chance, rows, columns):
    """Spans none over another, in any order."""
    free = set(itertools.product(range(rows), range(columns)))
    spans = []
    for _ in range(chance.randint(0, 6)):
        row, column = chance.randrange(rows), chance.randrange(columns)
        high, wide = chance.randint(1, rows - row), chance.randint(1, columns - column)
        taken = set(itertools.product(range(row, row + high), range(column, column + wide)))
        if taken <= free:
            free -= taken
            spans.append((row, column, high, wide))
    return spans, [(row, column, 1, 1) for row, column in sorted(free)]


def any_table(seed):
    """Heights, widths, least, and spans."""
    chance = random.Random(seed)
    least = chance.choice((3, 3, 4, 5))
    heights = [chance.randint(least, least + 3) for _ in range(chance.randint(1, 5))]
    widths = [chance.randint(least, least + 9) for _ in range(chance.randint(1, 5))]
    return heights, widths, least, *any_spans(chance, len(heights), len(widths))


class Ruled(unittest.TestCase):

    def test_any_tables(self):
        told = refused = 0
        for seed in range(400):
            heights, widths, least, spans, alone = any_table(seed)
            picture = drawn(heights, widths, spans)
            if len(picture) > 60 or len(picture[0]) > 120:
                refusal(self, NoTable, ruled, heights, widths, spans, least=least)
                continue
            found = told_cells(picture, least)
            if found is not None and [cell[:4] for cell in found] == sorted(spans + alone):
                self.assertEqual(ruled(heights, widths, spans, least=least), picture)
                self.assertEqual(cells(picture, least=least), found)
                told += 1
            else:
                refusal(self, NoTable, ruled, heights, widths, spans, least=least)
                refused += 1
        self.assertGreater(told, 100)
        self.assertGreater(refused, 20)

    def test_a_small_one(self):
        self.assertEqual(ruled([3], [3], [], least=3), ONE)
        self.assertEqual(cells(ONE, least=3), [(0, 0, 1, 1, (1, 1, 3, 3))])
        self.assertEqual(ruled([3], [3], [(0, 0, 1, 1)], least=3), ONE)
        picture = ruled([3, 4], [3, 5, 3], [(0, 1, 2, 1), (1, 2, 1, 1)], least=3)
        rows = ["#...#.....#...#"]
        self.assertEqual(picture, ("#" * 15, *rows * 3, "#####.....#####", *rows * 4, "#" * 15))
        self.assertEqual(cells(picture, least=3), [
            (0, 0, 1, 1, (1, 1, 3, 3)), (0, 1, 2, 1, (1, 5, 8, 5)), (0, 2, 1, 1, (1, 11, 3, 3)),
            (1, 0, 1, 1, (5, 1, 4, 3)), (1, 2, 1, 1, (5, 11, 4, 3))])

    def test_crossings_within_a_span_are_white(self):
        picture = ruled([3, 3, 3], [3, 3, 3], [(1, 0, 2, 2)], least=3)
        self.assertEqual(cut_out(picture, 5, 1, 7, 7), full(7, 7, "."))
        self.assertEqual(cells(picture, least=3)[3], (1, 0, 2, 2, (5, 1, 7, 7)))

    def test_a_rule_that_parts_no_two_cells(self):
        for spans in ([(0, 0, 2, 1), (0, 1, 2, 1)], [(0, 0, 2, 2)]):
            refusal(self, NoTable, ruled, [10, 10], [10, 10], spans)
        refusal(self, NoTable, ruled, [10, 10], [10, 10], [(0, 0, 1, 2), (1, 0, 1, 2)])
        refusal(self, NoTable, ruled, [10], [10, 10], [(0, 0, 1, 2)])
        self.assertEqual(len(cells(ruled([10, 10], [10, 10], [(0, 0, 1, 2)]))), 3)
        self.assertEqual(len(cells(ruled([10, 10], [10, 10, 10], [(0, 0, 1, 2), (1, 1, 1, 2)]))), 4)

    def test_sizes(self):
        self.assertEqual(len(ruled([28, 29], [10], [])), 60)
        self.assertEqual(len(ruled([10], [40, 40, 36], [])[0]), 120)
        refusal(self, NoTable, ruled, [29, 29], [10], [])
        refusal(self, NoTable, ruled, [10], [40, 40, 37], [])
        refusal(self, NoTable, ruled, [10] * 6, [10], [])
        refusal(self, NoTable, ruled, [10], [10] * 6, [])
        refusal(self, NoTable, ruled, [], [10], [])
        refusal(self, NoTable, ruled, [10], [], [])
        refusal(self, NoTable, ruled, [9], [10], [])
        refusal(self, NoTable, ruled, [10], [9], [])
        refusal(self, NoTable, ruled, [41], [10], [])
        refusal(self, NoTable, ruled, [10], [41], [])
        self.assertEqual(cells(ruled([40], [40], [])), [(0, 0, 1, 1, (1, 1, 40, 40))])
        self.assertEqual(len(cells(ruled([10] * 5, [20] * 5, []))), 25)
        self.assertEqual(len(cells(ruled([30], [30, 30], [], least=30), least=30)), 2)

    def test_refusals(self):
        for thing in [*others(), *numbers(), 2, 31]:
            self.assertEqual(refusal(self, TooMany, ruled, None, None, None, least=thing).most, 30)
        wrong = [thing for thing in others() if not (type(thing) is tuple and thing and type(thing[0]) is int)]
        for thing in [*wrong, *numbers(), [], (), [True] * 2, [10, None], ["10"], {10: 1}, [10.0], "##"]:
            refusal(self, NoTable, ruled, thing, [10], [])
            refusal(self, NoTable, ruled, [10], thing, [])
        no_spans = [[0, 0, 1, 1], (0, 0, 1), (0, 0, 1, 1, 1), (0, 0, 0, 1), (0, 0, 1, 0), (-1, 0, 1, 1), (0, -1, 1, 1),
                    (2, 0, 1, 1), (0, 3, 1, 1), (1, 0, 2, 1), (0, 2, 1, 2), (True, 0, 1, 1), (0, 0, True, 1),
                    (0, False, 1, 1), (0, 0, 1, True), (0, 0, 1, None), ("0", 0, 1, 1), (0, 0, 10 ** 39, 1)]
        for thing in [*wrong, *numbers(), *no_spans]:
            refusal(self, NoTable, ruled, [10, 10], [10, 10, 10], [thing])
            refusal(self, NoTable, ruled, [10, 10], [10, 10, 10], [(1, 1, 1, 2), thing])
        for thing in [*wrong, *numbers()]:
            refusal(self, NoTable, ruled, [10, 10], [10, 10, 10], thing)
        refusal(self, NoTable, ruled, [10, 10], [10, 10, 10], [(0, 0, 1, 2), (0, 1, 2, 1)])
        refusal(self, NoTable, ruled, [10, 10], [10, 10, 10], [(0, 0, 1, 1), (0, 0, 1, 1)])

    def test_lists_and_tuples(self):
        heights, widths, spans = [10, 11], [12, 13], [(1, 0, 1, 2)]
        picture = ruled(heights, widths, spans)
        self.assertEqual((heights, widths, spans), ([10, 11], [12, 13], [(1, 0, 1, 2)]))
        self.assertEqual(ruled(tuple(heights), tuple(widths), tuple(spans)), picture)
        heights.clear()
        spans.clear()
        self.assertEqual(ruled(least=10, spans=[(1, 0, 1, 2)], widths=[12, 13], heights=[10, 11]), picture)
        with self.assertRaises(TypeError):
            ruled([10], [10], [], 10)


class Cells(unittest.TestCase):

    def check(self, picture, least):
        wanted = told_cells(picture, least)
        if wanted is None:
            refusal(self, NoTable, cells, picture, least=least)
        else:
            self.assertEqual(cells(picture, least=least), wanted)
        return wanted

    def spoilt(self, picture, chance, least):
        """The table with dots, stretches or whole rules put in or taken away."""
        grid = [list(row) for row in picture]
        for _ in range(chance.randint(1, 3)):
            row, column = chance.randrange(len(grid)), chance.randrange(len(grid[0]))
            many = chance.choice((1, least, 99))
            sign = chance.choice("#.")
            for at in range(many):
                if chance.random() < 0.5 and row + at < len(grid):
                    grid[row + at][column] = sign
                elif column + at < len(grid[0]):
                    grid[row][column + at] = sign
            if many == 99 and 0 < row < len(grid) - 1:
                grid[row] = [sign] * len(grid[0])
        return tuple("".join(row) for row in grid)

    def test_spoilt_tables(self):
        told = refused = 0
        for seed in range(500):
            heights, widths, least, spans, _ = any_table(seed)
            picture = drawn(heights[:4], widths[:4], [])[:60]
            if seed % 2:
                picture = drawn(heights, widths, spans)
            if len(picture) > 60 or len(picture[0]) > 120:
                continue
            chance = random.Random(seed)
            spoilt = picture
            for _ in range(4):
                found = self.check(spoilt, chance.choice((least, least, 3, least + 1, least + 4)))
                told, refused = told + (found is not None), refused + (found is None)
                spoilt = self.spoilt(picture, chance, least)
        self.assertGreater(told, 300)
        self.assertGreater(refused, 300)

    def test_single_dots_taken_and_put(self):
        picture = drawn([4, 4], [4, 5], [(0, 0, 1, 2)])
        for place in itertools.product(range(len(picture)), range(len(picture[0]))):
            for least in (3, 4, 5):
                self.check(with_turned(picture, [place]), least)

    def test_edges(self):
        for at in range(5):
            for place in ((0, at), (4, at), (at, 0), (at, 4)):
                refusal(self, NoTable, cells, with_turned(ONE, [place]), least=3)

    def test_rules_side_by_side(self):
        picture = drawn([5, 5], [5, 5], [])
        self.assertEqual(len(cells(picture, least=3)), 4)
        for at in (1, 5, 7, 11):
            rows = list(picture)
            rows[at] = "#" * len(rows[at])
            refusal(self, NoTable, cells, tuple(rows), least=3)
        near = with_turned(picture, [(7, 1), (7, 2)])
        self.assertEqual(len(cells(near, least=4)), 4)
        refusal(self, NoTable, cells, near, least=3)
        refusal(self, NoTable, cells, full(3, 3), least=3)

    def test_no_rectangle(self):
        picture = drawn([5, 5], [5, 5], [])
        open_one = with_turned(picture, [(3, 6)])
        self.assertEqual([cell[:4] for cell in cells(open_one, least=3)], [(0, 0, 1, 2), (1, 0, 1, 1), (1, 1, 1, 1)])
        refusal(self, NoTable, cells, with_turned(picture, [(3, 6), (6, 3)]), least=3)
        refusal(self, NoTable, cells, with_turned(picture, [(9, 6), (6, 9)]), least=3)
        for three in itertools.combinations([(3, 6), (6, 3), (6, 9), (9, 6)], 3):
            around = with_turned(picture, three)
            self.assertEqual(cells(around, least=3), [(0, 0, 2, 2, (1, 1, 11, 11))])

    def test_rules_come_and_go_with_least(self):
        # A row of five dots in the left cell: a rule for least 5, at which the spaces of the grid are others.
        picture = with_turned(drawn([8], [8, 8], []), [(4, column) for column in range(2, 7)])
        self.assertEqual(cells(picture, least=6), [(0, 0, 1, 1, (1, 1, 8, 8)), (0, 1, 1, 1, (1, 10, 8, 8))])
        self.assertEqual(cells(picture, least=5), [(0, 0, 2, 1, (1, 1, 8, 8)), (0, 1, 2, 1, (1, 10, 8, 8))])
        self.assertEqual(cells(picture), cells(picture, least=10))
        self.assertEqual(cells(picture, least=8), cells(picture, least=6))

    def test_as_many_as_least(self):
        for least in (5, 6):
            self.assertEqual(cells(full(1, 5) + ("#...#",) * 3 + full(1, 5), least=5), [(0, 0, 1, 1, (1, 1, 3, 3))])
        refusal(self, NoTable, cells, ONE, least=6)
        refusal(self, NoTable, cells, ONE)
        refusal(self, NoTable, cells, ("#" * 8, *["#......#"] * 3, "#" * 8), least=6)
        refusal(self, NoTable, cells, ("#####", *["#...#"] * 6, "#####"), least=6)

    def test_each_place_in_one_cell_at_most(self):
        for seed in range(40):
            heights, widths, least, spans, _ = any_table(seed)
            found = told_cells(drawn(heights, widths, spans), least)
            places = [(row, column) for _, _, _, _, (top, left, high, wide) in found or []
                      for row in range(top, top + high) for column in range(left, left + wide)]
            self.assertEqual(len(places), len(set(places)))

    def test_refusals(self):
        for thing in [*others(), *numbers(), 2, 31]:
            self.assertEqual(refusal(self, TooMany, cells, None, least=thing).most, 30)
        for thing in [*others(), *numbers(), list(ONE), ("###", "##"), ("#" * 121,) * 5]:
            refusal(self, NoTable, cells, thing)
            refusal(self, NoTable, cells, thing, least=3)
        for seed in range(20):
            refusal(self, NoTable, cells, made(12, 20, seed))
        great = full(1, 30) + ("#" + "." * 28 + "#",) * 28 + full(1, 30)
        self.assertEqual(cells(great, least=30), [(0, 0, 1, 1, (1, 1, 28, 28))])
        with self.assertRaises(TypeError):
            cells(ONE, 3)

    def test_told_anew(self):
        cells(ONE, least=3).clear()
        self.assertEqual(cells(ONE, least=3), [(0, 0, 1, 1, (1, 1, 3, 3))])
        self.assertEqual(ONE, ("#####", "#...#", "#...#", "#...#", "#####"))


class Filled(unittest.TestCase):

    def setUp(self):
        self.table = ruled([10, 12], [10, 14], [(1, 0, 1, 2)])

    def test_drawn_into_each_cell(self):
        part = ("#.#", ".#.")
        for at, (_, _, _, _, (top, left, high, wide)) in enumerate(cells(self.table)):
            made_so = filled(self.table, at, part)
            self.assertEqual(cut_out(made_so, top + 1, left + 1, 2, 3), part)
            places = [(top + 1, left + 1), (top + 1, left + 3), (top + 2, left + 2)]
            self.assertEqual(with_turned(made_so, places), self.table)
            self.assertEqual(cells(made_so), cells(self.table))
        self.assertEqual(self.table, ruled([10, 12], [10, 14], [(1, 0, 1, 2)]))

    def test_just_fits(self):
        for rows, columns in ((8, 8), (1, 8), (8, 1)):
            self.assertEqual(len(cells(filled(self.table, 0, made(rows, columns, 1)))), 3)
            filled(self.table, 0, full(rows, columns, "."))
        for rows, columns in ((9, 8), (8, 9), (9, 1), (1, 9), (60, 1), (1, 120)):
            refusal(self, NoPlace, filled, self.table, 0, made(rows, columns, 1))
            refusal(self, NoPlace, filled, self.table, 0, full(rows, columns, "."))
        filled(self.table, 1, full(8, 12, "."))
        refusal(self, NoPlace, filled, self.table, 1, full(8, 13, "."))
        filled(self.table, 2, full(10, 23, "."))
        refusal(self, NoPlace, filled, self.table, 2, full(10, 24, "."))

    def test_white_last_rows_count(self):
        part = ("#" * 8,) * 7
        self.assertEqual(len(cells(filled(self.table, 0, part))), 3)
        refusal(self, NoPlace, filled, self.table, 0, (*part, "." * 8, "." * 8))
        refusal(self, NoPlace, filled, self.table, 0, tuple(row + "." for row in part))

    def test_rows_just_least_long(self):
        wide = ruled([16], [16], [], least=10)
        for many, is_rule in ((9, False), (10, True), (11, True)):
            for part in (("." * 2 + "#" * many,), ("..",) + (".#",) * many):
                if is_rule:
                    refusal(self, NoPlace, filled, wide, 0, part)
                else:
                    self.assertEqual(cells(filled(wide, 0, part)), cells(wide))
                self.assertEqual(cells(filled(wide, 0, part, least=12), least=12), cells(wide, least=12))

    def test_a_second_part(self):
        made_so = filled(self.table, 0, ("#",))
        refusal(self, NoPlace, filled, made_so, 0, ("#",))
        refusal(self, NoPlace, filled, made_so, 0, (".",))
        again = filled(made_so, 1, ("#",))
        self.assertEqual(cells(again), cells(self.table))
        self.assertEqual(filled(filled(self.table, 0, (".",)), 0, ("#",)), made_so)

    def test_an_inside_with_stretches(self):
        # The stretch is dots but for one: a cell of two spaces that isn't white.
        table = with_turned(ruled([10, 10], [10, 10], []), [(3, 11)])
        self.assertEqual(cells(table)[0][:4], (0, 0, 1, 2))
        refusal(self, NoPlace, filled, table, 0, ("#",))
        self.assertEqual(cells(filled(table, 1, ("#",))), cells(table))

    def test_refusals(self):
        for thing in [*others(), *numbers(), 2, 31]:
            self.assertEqual(refusal(self, TooMany, filled, None, None, None, least=thing).most, 30)
        for thing in [*others(), *numbers(), ONE, made(20, 20, 1)]:
            refusal(self, NoTable, filled, thing, None, None)
        for thing in [*others(), *numbers(), 3, -1, True]:
            refusal(self, NoPlace, filled, self.table, thing, ("#",))
            refusal(self, NoPlace, filled, self.table, thing, None)
        for thing in [*others(), *numbers(), ["#"], ("#", "##")]:
            refusal(self, NoPlace, filled, self.table, 0, thing)
        more = {"least": 10, "part": ("#",), "at": 2, "picture": self.table}
        self.assertEqual(filled(**more), filled(self.table, 2, ("#",)))
        with self.assertRaises(TypeError):
            filled(self.table, 0, ("#",), 10)


class InTime(unittest.TestCase):

    def test_great_tables(self):
        pictures = [ruled([10] * 5, [20] * 5, []), ruled([10] * 5, [20] * 5, [(1, 1, 3, 3)]), full(60, 120)]
        pictures += [("#" * 119,) + (("#.." * 40)[:119], "#" * 119) * 29, drawn([3] * 14, [3] * 29, [])]
        for picture in pictures:
            for least in (3, 10, 30):
                started = time.perf_counter()
                if told_cells(picture, least) is None:
                    refusal(self, NoTable, cells, picture, least=least)
                else:
                    started = time.perf_counter()
                    cells(picture, least=least)
                    self.assertLess(time.perf_counter() - started, 0.5)


if __name__ == "__main__":
    unittest.main()
