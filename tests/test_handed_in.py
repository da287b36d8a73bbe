"""Promise 0.3, as far as it speaks of dots and alphabets: what is handed in, what is told, and how it is called."""

import inspect
import unittest

from dotread import alphabets, dots
from dotread.alphabets import Alphabet, set_line
from dotread.errors import NoLine, NoPicture, NoPlace, NoShape, NoSign
from tests.things import Hostile, refusal

FACE = ("#..#.", ".....", ".##.#")
SHAPES = [("b", ("#", "#")), ("a", ("#..", "###"))]

CALLS = {
    dots.is_picture: "thing", dots.size: "picture", dots.dots: "picture",
    dots.cut_out: "picture top left high wide", dots.turned: "picture times", dots.shifted: "picture steps",
    dots.pieces: "picture", dots.cleaned: "picture most", dots.unlike: "one other",
    dots.with_turned: "picture places", Alphabet: "high shapes", Alphabet.high: "self", Alphabet.shapes: "self",
    Alphabet.signs: "self", Alphabet.wide: "self number", Alphabet.with_shape: "self sign picture",
    Alphabet.without: "self number", set_line: "alphabet text * gap blank",
}


class HandedIn(unittest.TestCase):

    def test_not_changed_and_free_to_change_later(self):
        steps = [1, 0, -1]
        places = [(0, 0), (0, 0), (1, 1)]
        shifted, turned = dots.shifted(FACE, steps), dots.with_turned(FACE, places)
        self.assertEqual((steps, places), ([1, 0, -1], [(0, 0), (0, 0), (1, 1)]))
        steps.clear()
        places.append(None)
        self.assertEqual(shifted, (".#..#", ".....", "##.#."))
        self.assertEqual(turned, ("#..#.", ".#...", ".##.#"))

    def test_shapes_handed_in(self):
        shapes = list(SHAPES)
        alphabet = Alphabet(2, shapes)
        longer = alphabet.with_shape("c", ("##", ".."))
        self.assertEqual(shapes, SHAPES)
        shapes[0] = None
        shapes.append(None)
        self.assertEqual((alphabet.high(), alphabet.shapes(), len(alphabet)), (2, SHAPES, 2))
        self.assertEqual(longer.shapes(), [*SHAPES, ("c", ("##", ".."))])
        self.assertEqual(alphabet, Alphabet(2, SHAPES))

    def test_told_lists_are_new_ones(self):
        alphabet = Alphabet(2, SHAPES)
        for tell in (lambda: dots.dots(FACE), lambda: dots.pieces(FACE), alphabet.shapes, alphabet.signs):
            first = tell()
            kept = [list(part) if isinstance(part, list) else part for part in first]
            self.assertIsNot(tell(), first)
            if isinstance(first[0], list):
                first[0].clear()
            first.reverse()
            first.append(None)
            self.assertEqual(tell(), kept)
        self.assertEqual(set_line(alphabet, "ba"), ("#.#..", "#.###"))

    def test_a_tuple_for_a_list(self):
        self.assertEqual(dots.shifted(FACE, (1, 0, -1)), dots.shifted(FACE, [1, 0, -1]))
        self.assertEqual(dots.with_turned(FACE, ((0, 0),)), dots.with_turned(FACE, [(0, 0)]))
        self.assertEqual(Alphabet(2, tuple(SHAPES)), Alphabet(2, SHAPES))

    def test_what_is_refused_changes_nothing(self):
        alphabet = Alphabet(2, SHAPES)
        steps, places, shapes = [0, 0, 9], [(0, 0), (9, 9)], [*SHAPES, None]
        refusal(self, NoPlace, dots.shifted, FACE, steps)
        refusal(self, NoPlace, dots.with_turned, FACE, places)
        refusal(self, NoShape, Alphabet, 2, shapes)
        refusal(self, NoShape, alphabet.with_shape, "a", ("#", "#"))
        refusal(self, NoShape, alphabet.without, 2)
        refusal(self, NoSign, set_line, alphabet, "x")
        self.assertEqual((steps, places, shapes), ([0, 0, 9], [(0, 0), (9, 9)], [*SHAPES, None]))
        self.assertEqual(alphabet, Alphabet(2, SHAPES))

    def test_truths_are_no_numbers(self):
        alphabet = Alphabet(2, SHAPES)
        for truth in (True, False):
            refusal(self, NoPlace, dots.cut_out, FACE, truth, 0, 1, 1)
            refusal(self, NoPlace, dots.cut_out, FACE, 0, truth, 1, 1)
            refusal(self, NoPlace, dots.cut_out, FACE, 0, 0, truth, 1)
            refusal(self, NoPlace, dots.cut_out, FACE, 0, 0, 1, truth)
            refusal(self, NoPlace, dots.turned, FACE, truth)
            refusal(self, NoPlace, dots.shifted, FACE, [0, truth, 0])
            refusal(self, NoPlace, dots.cleaned, FACE, truth)
            refusal(self, NoPlace, dots.with_turned, FACE, [(truth, 0)])
            refusal(self, NoPlace, dots.with_turned, FACE, [(0, truth)])
            self.assertEqual(refusal(self, NoShape, Alphabet, truth, [("a", ("#",))]).at, -1)
            self.assertIs(refusal(self, NoShape, alphabet.wide, truth).at, truth)
            self.assertIs(refusal(self, NoShape, alphabet.without, truth).at, truth)
            refusal(self, NoLine, set_line, alphabet, "ab", gap=truth)
            refusal(self, NoLine, set_line, alphabet, "ab", blank=truth)

    def test_the_refusal_told_first(self):
        refusal(self, NoPicture, dots.unlike, None, ("#",))
        refusal(self, NoPicture, dots.unlike, ("##",), None)
        refusal(self, NoPicture, dots.turned, ("#" * 121,), 1)
        self.assertEqual(refusal(self, NoShape, Alphabet, 10, []).at, -1)
        self.assertEqual(refusal(self, NoShape, Alphabet(1, [("a", ("#",))]).without, 1).at, 1)
        self.assertEqual(refusal(self, NoSign, set_line, Alphabet(2, SHAPES), "x" * 200, gap=-1).sign, "x")


class Called(unittest.TestCase):

    def test_names(self):
        for call, names in CALLS.items():
            told = []
            for name, parameter in inspect.signature(call).parameters.items():
                if parameter.kind is inspect.Parameter.KEYWORD_ONLY and "*" not in told:
                    told.append("*")
                told.append(name)
            self.assertEqual(told, names.split())

    def test_by_place_and_by_name(self):
        self.assertEqual(dots.cut_out(wide=2, high=1, left=2, top=0, picture=FACE), dots.cut_out(FACE, 0, 2, 1, 2))
        self.assertEqual(dots.turned(times=1, picture=FACE), dots.turned(FACE, 1))
        self.assertEqual(dots.shifted(steps=[0, 0, 0], picture=FACE), FACE)
        self.assertEqual(dots.cleaned(most=1, picture=FACE), dots.cleaned(FACE, 1))
        self.assertEqual(dots.unlike(other=FACE, one=FACE), 0)
        self.assertEqual(dots.with_turned(places=[], picture=FACE), FACE)
        alphabet = Alphabet(shapes=SHAPES, high=2)
        self.assertEqual(alphabet, Alphabet(2, SHAPES))
        self.assertEqual((alphabet.wide(number=1), len(alphabet.without(number=0))), (3, 1))
        self.assertEqual(len(alphabet.with_shape(picture=("##", ".."), sign="c")), 3)
        told = set_line(text="a b", alphabet=alphabet, blank=2, gap=0)
        self.assertEqual(told, set_line(alphabet, "a b", gap=0, blank=2))

    def test_behind_a_star_by_name_alone(self):
        with self.assertRaises(TypeError):
            set_line(Alphabet(2, SHAPES), "ab", 1)
        with self.assertRaises(TypeError):
            set_line(Alphabet(2, SHAPES), "ab", 1, 3)

    def test_defined_where_they_are_listed(self):
        for call in CALLS:
            home = alphabets if call.__qualname__.startswith("Alphabet") or call is set_line else dots
            self.assertEqual(call.__module__, home.__name__)
        for name in ("high", "shapes", "signs", "wide", "with_shape", "without", "__eq__", "__len__", "__init__"):
            self.assertIn(name, vars(Alphabet))

    def test_nothing_is_looked_into(self):
        self.assertIs(dots.is_picture(Hostile()), False)
        self.assertIs(Alphabet(2, SHAPES) == Hostile(), False)


if __name__ == "__main__":
    unittest.main()
