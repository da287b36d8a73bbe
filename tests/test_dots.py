"""Promise 1.1: pictures, places and pieces."""

import unittest

from dotread.dots import (
    cleaned, cut_out, dots, is_picture, pieces, shifted, size, turned, unlike, with_turned,
)
from dotread.errors import NoPicture, NoPlace
from tests.things import Hostile, full, made, numbers, others, refusal

ONE = ("#",)
FACE = (
    "#..#.",
    ".....",
    ".##.#",
)
SIZES = [(1, 1), (1, 120), (60, 1), (60, 120), (60, 60), (59, 61), (2, 3), (3, 2), (7, 9), (12, 30)]


def no_pictures():
    """Things of any kind that are none, and such as nearly are."""
    return [
        *others(), *numbers(), 0, 1, (), [], ["#"], ["#", "."], "#", "#.", full(61, 1), full(61, 120), full(1, 121),
        full(60, 121), ("#", "##"), ("##", "#"), ("##", "##", "#."[:1]), ("#", ""), ("", "#"), ("#", "x"), ("#x.",),
        (" ",), ("#\n",), ("#", 1), (1, "#"), ("#", None), ("#", ["#"]), ("#", b"#"), ("#", ("#",)), (("#",), ("#",)),
        ("#", Hostile()), (Hostile(), "#"), ("\uff03",), ("0",), list(FACE), {"#": "."}, "\n".join(FACE),
        tuple(list(row) for row in FACE), (x for x in FACE), ("#",) * 1000, ("#" * 10000,),
    ]


class IsPicture(unittest.TestCase):

    def test_bounds(self):
        for rows, columns in SIZES:
            for picture in (full(rows, columns), full(rows, columns, "."), made(rows, columns, rows)):
                self.assertIs(is_picture(picture), True)

    def test_beyond(self):
        for thing in no_pictures():
            self.assertIs(is_picture(thing), False)


class WantedFirst(unittest.TestCase):

    def test_no_picture_ahead_of_all(self):
        calls = [
            size, dots, pieces,
            lambda thing: cut_out(thing, 0, 0, 1, 1), lambda thing: cut_out(thing, None, -1, 0, Hostile()),
            lambda thing: turned(thing, 1), lambda thing: turned(thing, None),
            lambda thing: shifted(thing, [0]), lambda thing: shifted(thing, Hostile()),
            lambda thing: cleaned(thing, 1), lambda thing: cleaned(thing, Hostile()),
            lambda thing: unlike(thing, ONE), lambda thing: unlike(ONE, thing), lambda thing: unlike(thing, thing),
            lambda thing: unlike(FACE, thing), lambda thing: unlike(thing, Hostile()),
            lambda thing: with_turned(thing, []), lambda thing: with_turned(thing, Hostile()),
            lambda thing: with_turned(thing, [(0, 0), (9, 999)]),
        ]
        for call in calls:
            for thing in no_pictures():
                refusal(self, NoPicture, call, thing)


class Tell(unittest.TestCase):

    def test_size(self):
        for rows, columns in SIZES:
            self.assertEqual(size(made(rows, columns, 1)), (rows, columns))
            self.assertIs(type(size(made(rows, columns, 1))), tuple)

    def test_dots(self):
        self.assertEqual(dots(FACE), [(0, 0), (0, 3), (2, 1), (2, 2), (2, 4)])
        self.assertEqual(dots(full(60, 120, ".")), [])
        self.assertEqual(dots(full(60, 120)), [(row, column) for row in range(60) for column in range(120)])

    def test_dots_are_tuples_in_a_list(self):
        self.assertIs(type(dots(FACE)), list)
        self.assertTrue(all(type(place) is tuple for place in dots(FACE)))


class CutOut(unittest.TestCase):

    def test_parts(self):
        self.assertEqual(cut_out(FACE, 0, 0, 3, 5), FACE)
        self.assertEqual(cut_out(FACE, 0, 2, 3, 2), (".#", "..", "#."))
        self.assertEqual(cut_out(FACE, 2, 4, 1, 1), ("#",))
        self.assertEqual(cut_out(FACE, 0, 0, 1, 1), ("#",))
        self.assertEqual(cut_out(FACE, 1, 0, 2, 5), FACE[1:])
        self.assertEqual(cut_out(full(60, 120), 59, 119, 1, 1), ONE)
        self.assertEqual(cut_out(full(60, 120), 0, 0, 60, 120), full(60, 120))

    def test_each_part(self):
        for top in range(-2, 5):
            for left in range(-2, 7):
                for high in range(-1, 5):
                    for wide in range(-1, 7):
                        self.check_part(top, left, high, wide)

    def check_part(self, top, left, high, wide):
        rows = range(top, top + high)
        columns = range(left, left + wide)
        if top < 0 or left < 0 or high < 1 or wide < 1 or top + high > 3 or left + wide > 5:
            refusal(self, NoPlace, cut_out, FACE, top, left, high, wide)
            return
        part = tuple("".join(FACE[row][column] for column in columns) for row in rows)
        self.assertEqual(cut_out(FACE, top, left, high, wide), part)

    def test_of_anything(self):
        for thing in [*others(), *numbers(), FACE, "0", [0], (0,)]:
            refusal(self, NoPlace, cut_out, FACE, thing, 0, 1, 1)
            refusal(self, NoPlace, cut_out, FACE, 0, thing, 1, 1)
            refusal(self, NoPlace, cut_out, FACE, 0, 0, thing, 1)
            refusal(self, NoPlace, cut_out, FACE, 0, 0, 1, thing)
            refusal(self, NoPlace, cut_out, FACE, thing, thing, thing, thing)


class Turned(unittest.TestCase):

    def test_a_quarter_to_the_right(self):
        self.assertEqual(turned(("#..", ".#."), 1), (".#", "#.", ".."))
        self.assertEqual(turned(("#..",), 1), ("#", ".", "."))
        self.assertEqual(turned(("#", "."), 1), (".#",))

    def test_other_quarters(self):
        picture = ("#..", ".#.")
        self.assertEqual(turned(picture, 0), picture)
        self.assertEqual(turned(picture, 2), (".#.", "..#"))
        self.assertEqual(turned(picture, 3), ("..", ".#", "#."))
        self.assertEqual(turned(picture, 4), picture)
        self.assertEqual(turned(picture, -1), turned(picture, 3))
        self.assertEqual(turned(picture, -2), turned(picture, 2))
        self.assertEqual(turned(picture, -3), turned(picture, 1))

    def test_great_numbers(self):
        picture = made(5, 8, 4)
        for times in (10 ** 39, -10 ** 39, 4 * 10 ** 38 + 1, -4 * 10 ** 38 - 1, 10 ** 38 + 2, 10 ** 38 + 3):
            self.assertEqual(turned(picture, times), turned(picture, times % 4))

    def test_dot_by_dot(self):
        for rows, columns in [(1, 1), (1, 60), (60, 1), (60, 60), (7, 9), (59, 60)]:
            picture = made(rows, columns, 2)
            told = turned(picture, 1)
            self.assertEqual(size(told), (columns, rows))
            self.assertEqual(dots(told), sorted((column, rows - 1 - row) for row, column in dots(picture)))
            self.assertEqual(turned(told, 3), picture)

    def test_more_than_sixty_rows(self):
        for columns in (61, 120):
            picture = made(3, columns, 5)
            for times in (1, 3, -1, -3, 5, 10 ** 39 + 1, -10 ** 39 - 1):
                refusal(self, NoPlace, turned, picture, times)
            for times in (0, 4, -4, 10 ** 39):
                self.assertEqual(turned(picture, times), picture)
            for times in (2, -2, 6, 10 ** 39 + 2):
                self.assertEqual(turned(picture, times), tuple(row[::-1] for row in picture[::-1]))
        self.assertEqual(size(turned(full(60, 60), 1)), (60, 60))

    def test_no_number(self):
        for thing in others():
            refusal(self, NoPlace, turned, FACE, thing)


class Shifted(unittest.TestCase):

    def test_rows_go(self):
        self.assertEqual(shifted(FACE, [1, 0, -1]), (".#..#", ".....", "##.#."))
        self.assertEqual(shifted(FACE, (0, 0, 0)), FACE)
        self.assertEqual(shifted(("#..",), [2]), ("..#",))
        self.assertEqual(shifted(("..#",), [-2]), ("#..",))
        self.assertEqual(shifted((".#.#.",), [1]), ("..#.#",))
        self.assertEqual(shifted((".#.#.",), [-1]), ("#.#..",))

    def test_a_white_row_goes_any_way(self):
        for step in (0, 1, -1, 5, -5, 6, -6, 120, 10 ** 39, -10 ** 39):
            self.assertEqual(shifted(FACE, [0, step, 0]), FACE)

    def test_a_dot_would_leave(self):
        for steps in ([2, 0, 0], [-1, 0, 0], [0, 0, 1], [0, 0, -2], [10 ** 39, 0, 0], [0, 0, -10 ** 39], [5, 0, 0]):
            refusal(self, NoPlace, shifted, FACE, steps)
        for step in (1, -1, 120, -120, 10 ** 39, -10 ** 39):
            refusal(self, NoPlace, shifted, ("#" * 120,), [step])

    def test_each_step(self):
        for seed in range(10):
            picture = made(1, 9, seed, 1)
            for step in range(-12, 13):
                places = [(row, column + step) for row, column in dots(picture)]
                if all(0 <= column < 9 for _, column in places):
                    told = shifted(picture, [step])
                    self.assertEqual((size(told), dots(told)), ((1, 9), places))
                else:
                    refusal(self, NoPlace, shifted, picture, [step])

    def test_no_steps(self):
        wrong = [[], (), [0], [0, 0], [0, 0, 0, 0], 0, "000", {0: 0, 1: 0, 2: 0}, range(3), iter([0, 0, 0]), {0, 1, 2}]
        for thing in [*others(), *numbers(), *wrong]:
            refusal(self, NoPlace, shifted, FACE, thing)
        for thing in [*others(), "0", [0], (0,)]:
            for at in range(3):
                steps = [0, 0, 0]
                steps[at] = thing
                refusal(self, NoPlace, shifted, FACE, steps)
                refusal(self, NoPlace, shifted, full(3, 5, "."), steps)


def joined_one_by_one(picture):
    """The pieces, found another way: each dot joins all that it touches."""
    found = []
    for row, column in dots(picture):
        touched = [piece for piece in found if any(abs(row - r) <= 1 and abs(column - c) <= 1 for r, c in piece)]
        found = [piece for piece in found if piece not in touched]
        found.append(sorted([(row, column), *[place for piece in touched for place in piece]]))
    return sorted(found)


class Pieces(unittest.TestCase):

    def test_by_hand(self):
        self.assertEqual(pieces(FACE), [[(0, 0)], [(0, 3)], [(2, 1), (2, 2)], [(2, 4)]])
        self.assertEqual(pieces(("#.#", ".#.")), [[(0, 0), (0, 2), (1, 1)]])
        self.assertEqual(pieces(("..#", ".#.", "#..")), [[(0, 2), (1, 1), (2, 0)]])
        self.assertEqual(pieces(("#.#", "#.#")), [[(0, 0), (1, 0)], [(0, 2), (1, 2)]])
        self.assertEqual(pieces(("..", "..")), [])
        self.assertEqual(pieces(ONE), [[(0, 0)]])

    def test_no_neighbours_around_an_edge(self):
        self.assertEqual(pieces(("#..#",)), [[(0, 0)], [(0, 3)]])
        self.assertEqual(pieces(("#", ".", ".", "#")), [[(0, 0)], [(3, 0)]])
        self.assertEqual(pieces(("..#", "...", "#..")), [[(0, 2)], [(2, 0)]])

    def test_a_ring_and_its_inside(self):
        picture = ("#####", "#...#", "#.#.#", "#...#", "#####")
        ring = [place for place in dots(picture) if place != (2, 2)]
        self.assertEqual(pieces(picture), [ring, [(2, 2)]])

    def test_a_piece_that_begins_below(self):
        picture = ("..#.#", "#.#.#", "#####")
        self.assertEqual(pieces(picture), [dots(picture)])

    def test_the_greatest(self):
        whole = full(60, 120)
        self.assertEqual(pieces(whole), [dots(whole)])
        single = tuple(("#." * 60 if row % 2 == 0 else "." * 120) for row in range(60))
        self.assertEqual(pieces(single), [[place] for place in dots(single)])

    def test_a_long_snake(self):
        snake = tuple(("#" * 120, "." * 119 + "#", "#" * 120, "#" + "." * 119)[row % 4] for row in range(60))
        self.assertEqual(pieces(snake), [dots(snake)])

    def test_another_way(self):
        for seed in range(60):
            picture = made(1 + seed % 9, 1 + seed % 14, seed, 1 + seed % 6)
            self.assertEqual(pieces(picture), joined_one_by_one(picture))

    def test_kinds(self):
        self.assertIs(type(pieces(FACE)), list)
        self.assertTrue(all(type(piece) is list for piece in pieces(FACE)))
        self.assertTrue(all(type(place) is tuple for piece in pieces(FACE) for place in piece))


class Cleaned(unittest.TestCase):

    def test_most(self):
        self.assertEqual(cleaned(FACE, 0), FACE)
        self.assertEqual(cleaned(FACE, -1), FACE)
        self.assertEqual(cleaned(FACE, -10 ** 39), FACE)
        self.assertEqual(cleaned(FACE, 1), (".....", ".....", ".##.."))
        self.assertEqual(cleaned(FACE, 2), full(3, 5, "."))
        self.assertEqual(cleaned(FACE, 10 ** 39), full(3, 5, "."))

    def test_the_greatest(self):
        whole = full(60, 120)
        self.assertEqual(cleaned(whole, 7199), whole)
        self.assertEqual(cleaned(whole, 7200), full(60, 120, "."))

    def test_another_way(self):
        for seed in range(30):
            picture = made(9, 13, seed, 3)
            for most in range(6):
                kept = sorted(place for piece in joined_one_by_one(picture) if len(piece) > most for place in piece)
                self.assertEqual(dots(cleaned(picture, most)), kept)
                self.assertEqual(size(cleaned(picture, most)), (9, 13))

    def test_no_number(self):
        for thing in others():
            refusal(self, NoPlace, cleaned, FACE, thing)
            refusal(self, NoPlace, cleaned, full(3, 3, "."), thing)


class Unlike(unittest.TestCase):

    def test_how_many(self):
        self.assertEqual(unlike(FACE, FACE), 0)
        self.assertEqual(unlike(("#.", ".#"), (".#", "#.")), 4)
        self.assertEqual(unlike(("#.", ".#"), ("#.", "..")), 1)
        self.assertEqual(unlike(full(60, 120), full(60, 120, ".")), 7200)
        self.assertEqual(unlike(ONE, (".",)), 1)
        one, other = made(11, 17, 1), made(11, 17, 2)
        self.assertEqual(unlike(one, other), len(set(dots(one)) ^ set(dots(other))))

    def test_unlike_sizes(self):
        pairs = [(("##",), ("#", "#")), (ONE, ("##",)), (("##",), ONE), (ONE, ("#", "#")), (("#", "#"), ONE),
                 (full(60, 120), full(60, 119)), (full(60, 120), full(59, 120)), (full(2, 6), full(3, 4))]
        for one, other in pairs:
            refusal(self, NoPlace, unlike, one, other)


class WithTurned(unittest.TestCase):

    def test_turned_over(self):
        self.assertEqual(with_turned(FACE, []), FACE)
        self.assertEqual(with_turned(FACE, ()), FACE)
        self.assertEqual(with_turned(FACE, [(0, 0), (1, 1)]), ("...#.", ".#...", ".##.#"))
        self.assertEqual(with_turned(FACE, ((2, 4), (0, 4))), ("#..##", ".....", ".##.."))
        every = [(row, column) for row in range(60) for column in range(120)]
        self.assertEqual(with_turned(full(60, 120), every), full(60, 120, "."))

    def test_told_several_times(self):
        for times in range(6):
            told = with_turned(FACE, [(0, 0), (1, 2)] * times)
            self.assertEqual(told, FACE if times % 2 == 0 else ("...#.", "..#..", ".##.#"))

    def test_no_places(self):
        wrong = [0, (0, 0), [0, 0], "00", {(0, 0)}, {(0, 0): 1}, iter([(0, 0)]), [(0, 0), None], [(0,)], [(0, 0, 0)],
                 [[0, 0]], ["00"], [(-1, 0)], [(0, -1)], [(3, 0)], [(0, 5)], [(10 ** 39, 0)], [(0, -10 ** 39)],
                 [(True, 0)], [(0, False)], [(0.0, 0)], [(0, 0), (3, 5)], [((0, 0), (0, 1))]]
        for thing in [*others(), *numbers(), *wrong]:
            refusal(self, NoPlace, with_turned, FACE, thing)
        for thing in [*others(), *numbers()]:
            for places in ([thing], [(thing, 0)], [(0, thing)], [(0, 0), thing], ((thing, thing),)):
                refusal(self, NoPlace, with_turned, FACE, places)


if __name__ == "__main__":
    unittest.main()
