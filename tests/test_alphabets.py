"""Promises 2.1 and 2.2: alphabets, and lines set with them."""

import unittest

from dotread.alphabets import Alphabet, set_line
from dotread.errors import NoLine, NoShape, NoSign
from tests.things import AlwaysEqual, Hostile, full, made, numbers, others, refusal

BAR = ("#", "#")
FOOT = ("#..", "###")
HAT = ("##", ".#")
DOT = (".", "#")
SHAPES = [("b", BAR), ("a", FOOT), ("b", HAT), ("?", DOT)]
SMALL = Alphabet(2, SHAPES)


def shapes_of_four(many):
    """So many shapes of four rows and as many columns, no two alike."""
    return [("a", (f"{number:04b}".replace("0", ".").replace("1", "#"), "####", "....", ".#.#"))
            for number in range(many)]


def no_shapes():
    """What is none of an alphabet of two rows, beside BAR."""
    signs = ["", "ab", " ", "\n", "\x7f", "\u00e9", 7, None, True, b"a", ["a"], ("a",), Hostile()]
    pictures = [None, 1, "#", ["#", "#"], ("#",), ("#", "#", "#"), ("..", ".."), (".", "."), full(2, 9), full(2, 121),
                ("#", "##"), ("#", "x"), ("#", 1), BAR, [*HAT], Hostile(), True, ()]
    return [
        *others(), *numbers(), (), [], ("a",), ("a", HAT, HAT), ["a", HAT], ("a", "b"), HAT, "a", {"a": HAT}, (HAT, "a"),
        *[(sign, HAT) for sign in signs], *[("a", picture) for picture in pictures],
        *[("a", thing) for thing in others()], *[(thing, HAT) for thing in others()],
    ]


class Made(unittest.TestCase):

    def test_told(self):
        self.assertEqual(SMALL.high(), 2)
        self.assertEqual(SMALL.shapes(), SHAPES)
        self.assertIs(type(SMALL.shapes()), list)
        self.assertTrue(all(type(shape) is tuple for shape in SMALL.shapes()))
        self.assertEqual(SMALL.signs(), ["?", "a", "b"])
        self.assertEqual([SMALL.wide(number) for number in range(4)], [1, 3, 2, 1])
        self.assertEqual(len(SMALL), 4)

    def test_bounds(self):
        for high in range(1, 10):
            for wide in range(1, 9):
                alphabet = Alphabet(high, [("x", full(high, wide))])
                self.assertEqual((alphabet.high(), alphabet.wide(0), len(alphabet)), (high, wide, 1))
        sixteen = Alphabet(4, shapes_of_four(16))
        self.assertEqual((len(sixteen), sixteen.signs()), (16, ["a"]))
        self.assertEqual(sixteen.shapes(), shapes_of_four(16))

    def test_each_sign(self):
        for code in range(33, 127):
            if chr(code) != "%":
                self.assertEqual(Alphabet(1, [(chr(code), ("#",))]).signs(), [chr(code)])

    def test_a_single_dot_is_enough(self):
        self.assertEqual(len(Alphabet(9, [("a", ("." * 8,) * 8 + ("." * 7 + "#",))])), 1)

    def test_pictures_of_unlike_width_are_not_alike(self):
        self.assertEqual(len(Alphabet(1, [("a", ("#",)), ("a", ("#.",)), ("a", (".#",))])), 3)


class NoneMade(unittest.TestCase):

    def check(self, at, high, shapes):
        self.assertEqual(refusal(self, NoShape, Alphabet, high, shapes).at, at)

    def test_another_high_ahead_of_all(self):
        for high in [*others(), *numbers(), 0, 10, "2", [2]]:
            for shapes in (SHAPES, [], None, Hostile(), [None]):
                self.check(-1, high, shapes)

    def test_no_list(self):
        wrong = [*numbers(), None, True, "", "ab", b"", {}, {0: SHAPES[0]}, set(), Hostile(), AlwaysEqual(), iter(SHAPES),
                 range(3), SMALL, dict(SHAPES), dict(SHAPES).items(), object(), (shape for shape in SHAPES)]
        for shapes in wrong:
            self.check(0, 2, shapes)

    def test_none_in_it(self):
        self.check(0, 2, [])
        self.check(0, 2, ())

    def test_the_first_that_is_none(self):
        for thing in no_shapes():
            self.check(1, 2, [("b", BAR), thing])
            self.check(1, 2, [("b", BAR), thing, None])
            self.check(3, 2, (("b", BAR), ("b", FOOT), ("b", DOT), thing, ("c", HAT)))
            if thing.__class__ is not tuple or len(thing) != 2 or thing[1] is not BAR:
                self.check(0, 2, [thing])
                self.check(0, 2, [thing, ("b", BAR)])

    def test_of_another_high(self):
        self.check(0, 3, SHAPES)
        self.check(0, 1, SHAPES)
        self.check(1, 2, [("a", BAR), ("a", ("#", "#", "#"))])

    def test_two_alike(self):
        self.check(2, 2, [("a", BAR), ("b", HAT), ("c", BAR)])
        self.check(1, 2, [("a", BAR), ("a", BAR), ("a", BAR)])
        self.check(3, 2, [("a", BAR), ("b", HAT), ("c", FOOT), ("c", FOOT), None])

    def test_more_than_sixteen(self):
        sixteen = shapes_of_four(16)
        for last in [("b", full(4, 8)), sixteen[0], *others()]:
            self.check(16, 4, [*sixteen, last])
            self.check(16, 4, (*sixteen, last, last))
        self.check(16, 4, [*sixteen, *[None] * 1000])
        self.check(3, 4, [*sixteen[:3], None, *sixteen[3:]])
        self.check(15, 4, [*sixteen[:15], sixteen[0], sixteen[15]])


class Wide(unittest.TestCase):

    def test_of_anything(self):
        for thing in [*others(), *numbers(), 4, "0", [0], (0,)]:
            self.assertIs(refusal(self, NoShape, SMALL.wide, thing).at, thing)


class WithShape(unittest.TestCase):

    def test_the_last_one(self):
        told = SMALL.with_shape("c", ("#.", ".."))
        self.assertEqual(told.shapes(), [*SHAPES, ("c", ("#.", ".."))])
        self.assertEqual(told.high(), 2)
        self.assertEqual(SMALL.shapes(), SHAPES)
        self.assertEqual(SMALL.with_shape("b", (".#", "..")).shapes()[4], ("b", (".#", "..")))

    def test_of_one_that_is_none(self):
        one = Alphabet(2, [("b", BAR)])
        for sign in ["", "ab", " ", None, 7, True, b"c", ["c"], ("c",), *others()]:
            self.assertEqual(refusal(self, NoShape, SMALL.with_shape, sign, ("#.", "..")).at, 4)
            self.assertEqual(refusal(self, NoShape, one.with_shape, sign, HAT).at, 1)
        for picture in [("#",), ("#",) * 3, ("..", ".."), full(2, 9), BAR, HAT, ["#", "#"], None, 1, (), *others()]:
            self.assertEqual(refusal(self, NoShape, SMALL.with_shape, "c", picture).at, 4)
        self.assertEqual(refusal(self, NoShape, one.with_shape, "c", BAR).at, 1)

    def test_a_seventeenth_cannot_come(self):
        fifteen = Alphabet(4, shapes_of_four(15))
        sixteen = fifteen.with_shape(*shapes_of_four(16)[15])
        self.assertEqual(len(sixteen), 16)
        self.assertEqual(refusal(self, NoShape, sixteen.with_shape, "b", full(4, 8)).at, 16)
        self.assertEqual(refusal(self, NoShape, sixteen.with_shape, None, None).at, 16)
        self.assertEqual(refusal(self, NoShape, fifteen.with_shape, *shapes_of_four(1)[0]).at, 15)


class Without(unittest.TestCase):

    def test_gone(self):
        for number in range(4):
            told = SMALL.without(number)
            self.assertEqual(told.shapes(), SHAPES[:number] + SHAPES[number + 1:])
            self.assertEqual(told.high(), 2)
        self.assertEqual(SMALL.shapes(), SHAPES)

    def test_of_anything(self):
        one = Alphabet(2, [("b", BAR)])
        for thing in [*others(), *numbers(), 4, "0", [0], (0,)]:
            self.assertIs(refusal(self, NoShape, SMALL.without, thing).at, thing)
            self.assertIs(refusal(self, NoShape, one.without, thing).at, thing)
        self.assertEqual(refusal(self, NoShape, one.without, 1).at, 1)

    def test_the_only_one(self):
        one = SMALL.without(0).without(0).without(0)
        self.assertEqual(one.shapes(), [("?", DOT)])
        self.assertEqual(refusal(self, NoShape, one.without, 0).at, 0)
        self.assertEqual(len(one), 1)


class Compared(unittest.TestCase):

    def test_equal(self):
        for other in (Alphabet(2, list(SHAPES)), Alphabet(2, tuple(SHAPES)), SMALL,
                      SMALL.with_shape("c", full(2, 8)).without(4)):
            self.assertIs(SMALL == other, True)
            self.assertIs(SMALL != other, False)

    def test_not_equal(self):
        unlike = [Alphabet(2, SHAPES[::-1]), SMALL.without(0), SMALL.with_shape("c", full(2, 8)),
                  Alphabet(2, [("c", BAR), *SHAPES[1:]]), Alphabet(2, [("b", ("#.", "#.")), *SHAPES[1:]]),
                  Alphabet(1, [("b", ("#",))])]
        for other in unlike:
            self.assertIs(SMALL == other, False)
            self.assertIs(SMALL != other, True)

    def test_other_things(self):
        for thing in [*others(), *numbers(), SHAPES, tuple(SHAPES), (2, SHAPES), 2]:
            self.assertIs(SMALL == thing, False)
            self.assertIs(SMALL != thing, True)


def placed(alphabet, text, gap, blank):
    """The line set another way: shape by shape onto white, each at its own column."""
    places, column, last = [], 0, None
    for sign in text.strip(" "):
        if sign == " ":
            last = " "
            continue
        if last is not None:
            column += blank if last == " " else gap
        picture = [shape for name, shape in alphabet.shapes() if name == sign][0]
        places += [(row, column + at) for row in range(alphabet.high()) for at in range(len(picture[0]))
                   if picture[row][at] == "#"]
        column, last = column + len(picture[0]), sign
    return tuple("".join("#" if (row, at) in places else "." for at in range(column)) for row in range(alphabet.high()))


class SetLine(unittest.TestCase):

    def test_by_hand(self):
        self.assertEqual(set_line(SMALL, "ab"), ("#...#", "###.#"))
        self.assertEqual(set_line(SMALL, "a b"), ("#.....#", "###...#"))
        self.assertEqual(set_line(SMALL, "b?b"), ("#...#", "#.#.#"))
        self.assertEqual(set_line(SMALL, "?"), DOT)

    def test_the_first_shape_of_a_sign(self):
        self.assertEqual(set_line(SMALL, "b"), BAR)
        self.assertEqual(set_line(SMALL.without(0), "b"), HAT)

    def test_gap(self):
        for gap in range(10):
            self.assertEqual(set_line(SMALL, "bb", gap=gap), ("#" + "." * gap + "#",) * 2)
        self.assertEqual(set_line(SMALL, "bb", gap=0), ("##", "##"))

    def test_blank(self):
        for blank in range(1, 21):
            for text in ("b b", "b   b", " b b ", "   b  b    "):
                self.assertEqual(set_line(SMALL, text, blank=blank), ("#" + "." * blank + "#",) * 2)
                self.assertEqual(set_line(SMALL, text, gap=9, blank=blank), ("#" + "." * blank + "#",) * 2)

    def test_blanks_at_ends(self):
        self.assertEqual(set_line(SMALL, "   ab  "), set_line(SMALL, "ab"))

    def test_another_way(self):
        texts = ["a", "ab", "b?a", " a", "a ", "a b", "a  b?  a", "  ??  bb a", "abababab?"]
        for text in texts:
            for gap in (0, 1, 2, 9):
                for blank in (1, 3, 20):
                    told = set_line(SMALL, text, gap=gap, blank=blank)
                    self.assertEqual(told, placed(SMALL, text, gap, blank))

    def test_of_each_high(self):
        for high in range(1, 10):
            alphabet = Alphabet(high, [("x", made(high - 1, 5, 3) + ("#....",) if high > 1 else ("#....",))])
            self.assertEqual(set_line(alphabet, "xx x"), placed(alphabet, "xx x", 1, 3))

    def test_no_sign(self):
        for text, sign in [("c", "c"), ("abc", "c"), ("acb", "c"), ("a d c", "d"), (" B", "B"), ("ab!", "!"),
                           ("a\nb", "\n"), ("\n", "\n"), ("Zx", "Z")]:
            self.assertEqual(refusal(self, NoSign, set_line, SMALL, text).sign, sign)

    def test_nothing_is_left(self):
        for text in ("", " ", "    "):
            refusal(self, NoLine, set_line, SMALL, text)

    def test_no_text(self):
        for thing in [None, True, 7, b"ab", object()]:
            refusal(self, NoLine, set_line, SMALL, thing)

    def test_gap_and_blank_beyond(self):
        for gap in [*others(), *numbers(), 10, "1", [1]]:
            refusal(self, NoLine, set_line, SMALL, "ab", gap=gap)
            refusal(self, NoLine, set_line, SMALL, "a", gap=gap)
        for blank in [*others(), *numbers(), 0, 21, "3", [3]]:
            refusal(self, NoLine, set_line, SMALL, "a b", blank=blank)
            refusal(self, NoLine, set_line, SMALL, "a", blank=blank)

    def test_columns(self):
        self.assertEqual(set_line(SMALL, "b" * 120, gap=0), ("#" * 120,) * 2)
        refusal(self, NoLine, set_line, SMALL, "b" * 121, gap=0)
        self.assertEqual(len(set_line(SMALL, "a" * 30)[0]), 119)
        refusal(self, NoLine, set_line, SMALL, "a" * 31)
        self.assertEqual(len(set_line(SMALL, "b " * 59 + "bb", gap=0, blank=1)[0]), 120)
        self.assertEqual(len(set_line(SMALL, "b" * 12 + " b", gap=9)[0]), 115)
        self.assertEqual(len(set_line(SMALL, "b" * 12 + " b", gap=9, blank=8)[0]), 120)
        refusal(self, NoLine, set_line, SMALL, "b" * 12 + " b", gap=9, blank=9)
        refusal(self, NoLine, set_line, SMALL, "b" * 100000)
        self.assertEqual(len(set_line(SMALL, " " * 1000 + "b" + " " * 1000)[0]), 1)

    def test_no_sign_ahead_of_no_line(self):
        self.assertEqual(refusal(self, NoSign, set_line, SMALL, "c", gap=10).sign, "c")
        self.assertEqual(refusal(self, NoSign, set_line, SMALL, "ac", gap=Hostile(), blank=None).sign, "c")
        self.assertEqual(refusal(self, NoSign, set_line, SMALL, "a" * 500 + "cd").sign, "c")
        self.assertEqual(refusal(self, NoSign, set_line, SMALL, " \n ", blank=0).sign, "\n")


if __name__ == "__main__":
    unittest.main()
