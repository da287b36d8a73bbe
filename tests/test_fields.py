"""Promises 0.2 (e), 7.1 and 7.2: fields of a page, lines in a box, and the line at a box."""

import random
import time
import unittest

from dotread.alphabets import Alphabet, set_line
from dotread.dots import cut_out, dots
from dotread.errors import NoLine, NoPicture, NoPlace, TooMany
from dotread.fields import fields, line_at, lines_of
from dotread.reading import read
from tests.things import AlwaysEqual, Hostile, full, made, numbers, others, refusal

GAPS = ("......", "..##..", "......", "......", ".#..#.", "......")


def white(rows, columns):
    """A white page, as lists of signs."""
    return [["."] * columns for _ in range(rows)]


def page_of(grid):
    """The picture of lists of signs."""
    return tuple("".join(row) for row in grid)


def patches(rows, columns, seed):
    """A page with patches of dots, some over one another."""
    chance = random.Random(seed)
    grid = white(rows, columns)
    for _ in range(chance.randint(1, 12)):
        top, left = chance.randrange(rows), chance.randrange(columns)
        for row in range(top, min(rows, top + chance.randint(1, 6))):
            for column in range(left, min(columns, left + chance.randint(1, 12))):
                grid[row][column] = chance.choice("##.")
    return page_of(grid)


def cut_in_turn(rows, columns, band):
    """A page that is parted by rows, then the lower part by columns, then the right part by rows, and so on."""
    grid = white(rows, columns)
    top = left = 0
    across = True
    while top < rows and left < columns:
        if across:
            grid[top][left:] = ["#"] * (columns - left)
            top += 1 + band
        else:
            for row in range(top, rows):
                grid[row][left] = "#"
            left += 1 + band
        across = not across
    return page_of(grid)


def grouped(places, axis, least):
    """The groups of the places that white bands of at least so many part."""
    groups = []
    for place in sorted(places, key=lambda place: place[axis]):
        if not groups or place[axis] - groups[-1][-1][axis] - 1 >= least:
            groups.append([])
        groups[-1].append(place)
    return groups


def parted(places, rows, columns):
    """The boxes, by what the document says, from the places of the dots alone."""
    parts = [part for group in grouped(places, 0, rows) for part in grouped(group, 1, columns)]
    if len(parts) > 1:
        return [box for part in parts for box in parted(part, rows, columns)]
    return [boxed(part) for part in parts]


def boxed(places):
    """The box of these places."""
    tops, lefts = [place[0] for place in places], [place[1] for place in places]
    return min(tops), min(lefts), max(tops) + 1 - min(tops), max(lefts) + 1 - min(lefts)


def within(place, box):
    """Whether a place is in a box."""
    return box[0] <= place[0] < box[0] + box[2] and box[1] <= place[1] < box[1] + box[3]


def no_boxes(rows, columns):
    """Things that are no box within a page of so many rows and columns."""
    return [*others(), *numbers(), [0, 0, 1, 1], (0, 0, 1), (0, 0, 1, 1, 1), (0, 0, True, 1), (True, 0, 1, 1),
            (0, False, 1, 1), (0, 0, 1, True), (0, 0, 0, 1), (0, 0, 1, 0), (-1, 0, 1, 1), (0, -1, 1, 1),
            (rows, 0, 1, 1), (0, columns, 1, 1), (0, 0, rows + 1, 1), (0, 0, 1, columns + 1), (1, 0, rows, 1),
            (0, 1, 1, columns), (0, 0, -1, 1), ("0", 0, 1, 1), (0, 0, 1, None), (Hostile(), 0, 1, 1), (0, 0, 1.0, 1)]


class Fields(unittest.TestCase):

    def pages(self):
        found = [GAPS, full(1, 1), full(60, 120), full(1, 120), full(60, 1)]
        found += [made(rows, columns, seed, of_ten) for seed in range(4) for of_ten in (1, 2, 5)
                  for rows, columns in ((1, 9), (9, 1), (7, 9), (12, 30))]
        return found + [patches(rows, columns, seed) for seed in range(12)
                        for rows, columns in ((12, 30), (20, 40), (60, 120))]

    def check(self, page, boxes):
        places = dots(page)
        for place in places:
            self.assertEqual(sum(within(place, box) for box in boxes), 1)
        for at, box in enumerate(boxes):
            part = cut_out(page, *box)
            self.assertTrue("#" in part[0] and "#" in part[-1])
            self.assertTrue(any(row[0] == "#" for row in part) and any(row[-1] == "#" for row in part))
            for other in boxes[:at]:
                self.assertTrue(box[0] >= other[0] + other[2] or other[0] >= box[0] + box[2]
                                or box[1] >= other[1] + other[3] or other[1] >= box[1] + box[3])

    def test_any_pages(self):
        for page in self.pages():
            for rows, columns in ((2, 4), (1, 1), (1, 4), (2, 1), (3, 5), (60, 60), (60, 1), (1, 60)):
                boxes = fields(page, rows=rows, columns=columns)
                self.assertEqual(boxes, parted(dots(page), rows, columns))
                self.check(page, boxes)

    def test_cut_in_turn_many_times(self):
        for rows, columns, band in ((60, 120, 1), (60, 120, 2), (60, 120, 3), (59, 61, 1), (20, 30, 4)):
            page = cut_in_turn(rows, columns, band)
            boxes = fields(page, rows=band, columns=band)
            self.assertEqual(boxes, parted(dots(page), band, band))
            self.assertGreater(len(boxes), min(rows, columns) // (band + 1))
            self.assertEqual(len(fields(page, rows=band + 1, columns=band + 1)), 1)

    def test_bands_of_just_so_many(self):
        for many in (1, 2, 5, 58):
            page = ("#",) + full(many, 1, ".") + ("#",)
            self.assertEqual(fields(page, rows=many), [(0, 0, 1, 1), (many + 1, 0, 1, 1)])
            self.assertEqual(fields(page, rows=many + 1), [(0, 0, many + 2, 1)])
            flat = ("#" + "." * many + "#",)
            self.assertEqual(fields(flat, columns=many), [(0, 0, 1, 1), (0, many + 1, 1, 1)])
            self.assertEqual(fields(flat, columns=many + 1), [(0, 0, 1, many + 2)])

    def test_white_ends_are_no_bands(self):
        self.assertEqual(fields(("...", ".#.", "..."), rows=1, columns=1), [(1, 1, 1, 1)])
        self.assertEqual(fields(GAPS), [(1, 2, 1, 2), (4, 1, 1, 4)])
        self.assertEqual(fields(GAPS, columns=2), [(1, 2, 1, 2), (4, 1, 1, 1), (4, 4, 1, 1)])
        self.assertEqual(fields(GAPS, rows=3), [(1, 1, 4, 4)])

    def test_no_dots(self):
        for rows, columns in ((1, 1), (60, 120), (3, 7)):
            self.assertEqual(fields(full(rows, columns, ".")), [])

    def test_one_part_within_the_other(self):
        grid = white(20, 40)
        for column in range(40):
            grid[0][column] = grid[19][column] = "#"
        for row in range(20):
            grid[row][0] = grid[row][39] = "#"
        grid[9][20] = "#"
        self.assertEqual(fields(page_of(grid)), [(0, 0, 20, 40)])
        grid[0][20:30] = ["."] * 10
        self.assertEqual(fields(page_of(grid), rows=1, columns=1), [(0, 0, 20, 40)])

    def test_defaults(self):
        for seed in range(12):
            page = patches(20, 40, seed)
            self.assertEqual(fields(page), fields(page, rows=2, columns=4))
            self.assertEqual(fields(page, rows=1), fields(page, columns=4, rows=1))
            self.assertEqual(fields(page, columns=1), fields(page, columns=1, rows=2))
        with self.assertRaises(TypeError):
            fields(GAPS, 2)

    def test_a_field_is_one_field_and_whole(self):
        for seed in range(20):
            page = patches(30, 60, seed)
            for box in fields(page):
                self.assertEqual(fields(cut_out(page, *box)), [(0, 0, *box[2:])])

    def test_told_anew(self):
        boxes = fields(GAPS)
        boxes.clear()
        self.assertEqual(len(fields(GAPS)), 2)
        self.assertTrue(all(type(box) is tuple for box in fields(GAPS)))

    def test_refusals(self):
        for thing in [*others(), *numbers(), [], ["#"], ("#", "##")]:
            refusal(self, NoPicture, fields, thing)
            refusal(self, NoPicture, fields, thing, rows=0, columns=None)
        for thing in [*others(), *numbers(), 0, 61]:
            self.assertEqual(refusal(self, TooMany, fields, GAPS, rows=thing).most, 60)
            self.assertEqual(refusal(self, TooMany, fields, GAPS, columns=thing).most, 60)
        self.assertEqual(fields(GAPS, rows=60, columns=60), [(1, 1, 4, 4)])

    def test_in_time(self):
        pages = [made(60, 120, 1, of_ten) for of_ten in (1, 2, 5)] + [cut_in_turn(60, 120, 1)]
        pages += [(("#." * 60), "." * 120) * 30, ("#" + "." * 119,) * 60]
        started = time.perf_counter()
        for page in pages:
            fields(page, rows=1, columns=1)
        self.assertLess(time.perf_counter() - started, len(pages))


class LinesOf(unittest.TestCase):

    def told(self, page, box, high, pitch, above):
        found = []
        start = box[0] - above
        while start < box[0] + box[2]:
            rows = [row for row in range(start, start + high) if box[0] <= row < box[0] + box[2]]
            if any("#" in page[row][box[1]:box[1] + box[3]] for row in rows):
                found.append((rows[0], box[1], len(rows), box[3]))
            start += pitch
        return found

    def test_any_boxes(self):
        for seed in range(6):
            page = patches(24, 30, seed)
            for box in ((0, 0, 24, 30), (3, 4, 11, 8), (5, 0, 1, 30), (23, 29, 1, 1), (0, 7, 24, 1), *fields(page)):
                for high in (1, 2, 5, 9):
                    for pitch in {high, high + 1, 13, 60}:
                        for above in {0, 1, high - 1} - {high}:
                            if above < high:
                                self.assertEqual(lines_of(page, box, high=high, pitch=pitch, above=above),
                                                 self.told(page, box, high, pitch, above))

    def test_ends_and_white_lines(self):
        page = full(10, 3)
        self.assertEqual(lines_of(page, (1, 0, 8, 2), high=3, pitch=3), [(1, 0, 3, 2), (4, 0, 3, 2), (7, 0, 2, 2)])
        above = lines_of(page, (1, 0, 8, 2), high=3, pitch=4, above=2)
        self.assertEqual(above, [(1, 0, 1, 2), (3, 0, 3, 2), (7, 0, 2, 2)])
        self.assertEqual(lines_of(page, (1, 1, 8, 2), high=3, pitch=8), [(1, 1, 3, 2)])
        self.assertEqual(lines_of(page, (1, 1, 9, 2), high=3, pitch=8), [(1, 1, 3, 2), (9, 1, 1, 2)])
        self.assertEqual(lines_of(("#.", "..", ".#"), (0, 0, 3, 1), high=1, pitch=1), [(0, 0, 1, 1)])
        self.assertEqual(lines_of(("#.", "..", ".#"), (0, 0, 3, 2), high=1, pitch=1), [(0, 0, 1, 2), (2, 0, 1, 2)])
        self.assertEqual(lines_of(("..", ".."), (0, 0, 2, 2), high=1, pitch=1), [])

    def test_defaults_and_names(self):
        page = full(5, 5)
        self.assertEqual(lines_of(box=(0, 0, 5, 5), pitch=3, high=2, picture=page),
                         lines_of(page, (0, 0, 5, 5), high=2, pitch=3, above=0))
        with self.assertRaises(TypeError):
            lines_of(page, (0, 0, 5, 5), 2, 3)

    def test_refusals(self):
        page = full(5, 6)
        more = {"high": 2, "pitch": 3}
        for thing in [*others(), *numbers(), ["#"]]:
            refusal(self, NoPicture, lines_of, thing, None, high=0, pitch=0)
        for box in no_boxes(5, 6):
            refusal(self, NoPlace, lines_of, page, box, **more)
            refusal(self, NoPlace, lines_of, page, box, high=None, pitch=None, above=None)
        for thing in [*others(), *numbers()]:
            for name in ("high", "pitch", "above"):
                self.assertEqual(refusal(self, TooMany, lines_of, page, (0, 0, 5, 6), **{**more, name: thing}).most, 60)
        for high, pitch, above in ((0, 1, 0), (10, 10, 0), (2, 1, 0), (2, 61, 0), (2, 3, 2), (2, 3, -1), (1, 1, 1)):
            found = refusal(self, TooMany, lines_of, page, (0, 0, 5, 6), high=high, pitch=pitch, above=above)
            self.assertEqual(found.most, 60)
        self.assertEqual(len(lines_of(page, (0, 0, 5, 6), high=9, pitch=60, above=8)), 1)


class LineAt(unittest.TestCase):

    def test_trimmed_and_white_rows(self):
        page = ("..........", "..#.......", ".....#....", "..........", "..........")
        self.assertEqual(line_at(page, (1, 0, 2, 10), high=2), ("#...", "...#"))
        self.assertEqual(line_at(page, (1, 0, 2, 10), high=4, over=1), ("....", "#...", "...#", "...."))
        self.assertEqual(line_at(page, (1, 0, 2, 10), high=4, over=2), ("....", "....", "#...", "...#"))
        self.assertEqual(line_at(page, (1, 0, 2, 10), high=9), ("#...", "...#", *["...."] * 7))
        self.assertEqual(line_at(page, (0, 2, 5, 1), high=5), (".", "#", ".", ".", "."))
        self.assertEqual(line_at(page, (2, 5, 1, 1), high=1), ("#",))

    def test_any_boxes(self):
        for seed in range(20):
            page = patches(9, 60, seed)
            for box in ((0, 0, 9, 60), (2, 3, 4, 50), *fields(page)):
                part = cut_out(page, *box)
                there = [column for column in range(box[3]) if any(row[column] == "#" for row in part)]
                for high, over in ((9, 0), (9, 9 - box[2]), (box[2], 0)):
                    if not there or over < 0:
                        continue
                    wide = there[-1] + 1 - there[0]
                    line = line_at(page, box, high=high, over=over)
                    self.assertEqual(line[over:over + box[2]], tuple(row[there[0]:there[-1] + 1] for row in part))
                    self.assertEqual(set(line[:over] + line[over + box[2]:]) - {"." * wide}, set())
                    self.assertEqual(len(line), high)

    def test_width(self):
        page = ("#" + "." * 58 + "#" + "." * 59 + "#",)
        self.assertEqual(line_at(page, (0, 0, 1, 119), high=1), (page[0][:60],))
        refusal(self, NoLine, line_at, page, (0, 0, 1, 120), high=1)
        refusal(self, NoLine, line_at, page, (0, 59, 1, 61), high=1)
        self.assertEqual(line_at(page, (0, 60, 1, 60), high=1), ("#",))

    def test_refusals(self):
        page = full(5, 6)
        for thing in [*others(), *numbers(), ["#"]]:
            refusal(self, NoPicture, line_at, thing, None, high=0, over=None)
        for box in no_boxes(5, 6):
            refusal(self, NoPlace, line_at, page, box, high=9)
            refusal(self, NoPlace, line_at, page, box, high=0, over=-1)
        for thing in [*others(), *numbers()]:
            refusal(self, NoLine, line_at, page, (0, 0, 1, 1), high=thing)
            refusal(self, NoLine, line_at, page, (0, 0, 1, 1), high=9, over=thing)
        for high, over in ((0, 0), (10, 0), (4, 0), (5, 1), (9, 5), (9, -1)):
            refusal(self, NoLine, line_at, page, (0, 0, 5, 6), high=high, over=over)
        refusal(self, NoLine, line_at, full(5, 6, "."), (0, 0, 5, 6), high=5)
        refusal(self, NoLine, line_at, ("#.", ".."), (0, 1, 2, 1), high=5)
        self.assertEqual(line_at(page, (0, 0, 5, 6), high=9, over=4)[4:], page)
        with self.assertRaises(TypeError):
            line_at(page, (0, 0, 5, 6), 5)

    def test_other_kinds_of_rows(self):
        refusal(self, NoPlace, lines_of, full(2, 2), AlwaysEqual(), high=1, pitch=1)
        refusal(self, NoPlace, line_at, full(2, 2), Hostile(), high=1)


class AsIfAlone(unittest.TestCase):

    def test_what_stands_in_a_field(self):
        alphabet = Alphabet(3, [("a", (".#.", "#.#", "###")), ("b", ("#.", "##", "##")), ("-", ("..", "##", ".."))])
        texts = ["ab", "b-a", "-", "aa b", "-ba"]
        grid = white(60, 120)
        at = 0
        for top in (2, 12, 30, 51):
            for left in (5, 60):
                for row, signs in enumerate(set_line(alphabet, texts[at % 5], blank=3)):
                    grid[top + row][left:left + len(signs)] = signs
                at += 1
        boxes = fields(page_of(grid))
        self.assertEqual(len(boxes), at)
        for number, box in enumerate(boxes):
            alone = set_line(alphabet, texts[number % 5], blank=3)
            over = 1 if texts[number % 5] == "-" else 0
            line = line_at(page_of(grid), box, high=3, over=over)
            cost, reading = read(alphabet, line)
            self.assertEqual(line, alone)
            self.assertEqual((cost, reading), read(alphabet, alone))
            self.assertEqual(cost, 0)


if __name__ == "__main__":
    unittest.main()
