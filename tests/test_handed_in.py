"""Promise 0.3: what is handed in, what is told, and how it is called."""

import inspect
import unittest

from dotread import alphabets, desk, dots, doubts, fields, parting, reading, searching, tables, texts, words, works
from dotread.alphabets import Alphabet, set_line
from dotread.desk import Desk
from dotread.errors import NoLine, NoPicture, NoPlace, NoShape, NoSign, NoTable, NoWord, TooMany
from dotread.words import Lexicon
from dotread.works import Works
from tests.things import Hostile, refusal

FACE = ("#..#.", ".....", ".##.#")
SHAPES = [("b", ("#", "#")), ("a", ("#..", "###"))]

CALLS = {
    dots.is_picture: "thing", dots.size: "picture", dots.dots: "picture",
    dots.cut_out: "picture top left high wide", dots.turned: "picture times", dots.shifted: "picture steps",
    dots.pieces: "picture", dots.cleaned: "picture most", dots.unlike: "one other",
    dots.with_turned: "picture places", Alphabet: "high shapes", Alphabet.high: "self", Alphabet.shapes: "self",
    Alphabet.signs: "self", Alphabet.wide: "self number", Alphabet.with_shape: "self sign picture",
    Alphabet.without: "self number", set_line: "alphabet text * gap blank",
    reading.fit: "alphabet line column number", reading.cost: "alphabet line reading", reading.read: "alphabet line",
    reading.next_ones: "alphabet line k", reading.drawn: "alphabet wide reading",
    words.text_of: "alphabet reading * blank", words.words_of: "alphabet reading * blank",
    Lexicon: "words * strange blank", Lexicon.words: "self", Lexicon.has: "self word", Lexicon.with_word: "self word",
    Lexicon.without_word: "self word", words.cost_by: "alphabet lexicon line reading",
    words.read_by: "alphabet lexicon line", words.next_by: "alphabet lexicon line k",
    doubts.without_window: "alphabet lexicon line column number",
    doubts.with_window: "alphabet lexicon line column number", doubts.doubts: "alphabet lexicon line",
    doubts.sure: "alphabet lexicon line least", parting.parting: "alphabet most", parting.safe: "alphabet most",
    fields.fields: "picture * rows columns", fields.lines_of: "picture box * high pitch above",
    fields.line_at: "picture box * high over", tables.cells: "picture * least",
    tables.ruled: "heights widths spans * least", tables.filled: "picture at part * least",
    searching.places: "alphabet lexicon line pattern * within", searching.best_as: "alphabet lexicon line text",
    Works: "alphabet lexicon", Works.lay: "self name lines", Works.gone: "self name",
    Works.teach: "self name at column wide sign", Works.forget: "self number", Works.learn: "self word",
    Works.unlearn: "self word", Works.back: "self", Works.together: "self deeds", Works.alphabet: "self",
    Works.lexicon: "self", Works.pages: "self", Works.reading: "self name at", Works.text: "self name",
    Works.search: "self pattern * within", Works.doubtful: "self least", Works.log: "self", Works.twin: "self",
    works.works_of: "alphabet lexicon log", texts.alphabet_text: "alphabet", texts.picture_text: "picture",
    texts.places_text: "alphabet line reading", texts.read_alphabet: "text", texts.read_picture: "text",
    texts.read_places: "text", Desk: "alphabet lexicon", Desk.answer: "self row",
}
HOMES = {
    dots: "is_picture size dots cut_out turned shifted pieces cleaned unlike with_turned", alphabets: "Alphabet set_line",
    reading: "fit cost read next_ones drawn", words: "text_of words_of Lexicon cost_by read_by next_by",
    doubts: "without_window with_window doubts sure", parting: "parting safe", fields: "fields lines_of line_at",
    tables: "cells ruled filled", searching: "places best_as", works: "Works works_of", desk: "Desk",
    texts: "alphabet_text picture_text places_text read_alphabet read_picture read_places",
}
METHODS = {
    Alphabet: "high shapes signs wide with_shape without __eq__ __len__ __init__",
    Lexicon: "words has with_word without_word __eq__ __init__",
    Works: "lay gone teach forget learn unlearn back together alphabet lexicon pages reading text search doubtful log twin "
           "__init__",
    Desk: "answer __init__",
}
LINE = ("#.#..", "#.###")


class HandedIn(unittest.TestCase):

    def test_not_changed_and_free_to_change_later(self):
        steps = [1, 0, -1]
        places = [(0, 0), (0, 0), (1, 1)]
        shifted, turned = dots.shifted(FACE, steps), dots.with_turned(FACE, places)
        self.assertEqual((steps, places), ([1, 0, -1], [(0, 0), (0, 0), (1, 1)]))
        steps.clear()
        places.append(None)
        self.assertEqual(shifted, (".#..#", ".....", "##.#."))
        self.assertEqual(turned, ("#..#.", ".#...", ".##.#"))

    def test_shapes_handed_in(self):
        shapes = list(SHAPES)
        alphabet = Alphabet(2, shapes)
        longer = alphabet.with_shape("c", ("##", ".."))
        self.assertEqual(shapes, SHAPES)
        shapes[0] = None
        shapes.append(None)
        self.assertEqual((alphabet.high(), alphabet.shapes(), len(alphabet)), (2, SHAPES, 2))
        self.assertEqual(longer.shapes(), [*SHAPES, ("c", ("##", ".."))])
        self.assertEqual(alphabet, Alphabet(2, SHAPES))

    def test_what_is_told_of_lines_is_new(self):
        alphabet, lexicon = Alphabet(2, SHAPES), Lexicon(["ba"])
        page = (LINE[0] + "....#", LINE[1] + "....#")
        table = tables.ruled([3, 4], [5, 6], [(0, 0, 1, 2)], least=3)
        for tell in (lambda: reading.next_ones(alphabet, LINE, 3), lambda: words.next_by(alphabet, lexicon, LINE, 3),
                     lambda: words.words_of(alphabet, ((0, 0),)), lexicon.words, lambda: fields.fields(page),
                     lambda: doubts.doubts(alphabet, lexicon, LINE), lambda: tables.cells(table, least=3),
                     lambda: fields.lines_of(page, (0, 0, 2, 10), high=2, pitch=2),
                     lambda: searching.places(alphabet, lexicon, LINE, "ba"), lambda: texts.read_places("0 1 0 a\n")):
            first = tell()
            kept = list(first)
            self.assertTrue(kept)
            self.assertIsNot(tell(), first)
            first.clear()
            self.assertEqual(tell(), kept)

    def test_told_lists_are_new_ones(self):
        alphabet = Alphabet(2, SHAPES)
        for tell in (lambda: dots.dots(FACE), lambda: dots.pieces(FACE), alphabet.shapes, alphabet.signs):
            first = tell()
            kept = [list(part) if isinstance(part, list) else part for part in first]
            self.assertIsNot(tell(), first)
            if isinstance(first[0], list):
                first[0].clear()
            first.reverse()
            first.append(None)
            self.assertEqual(tell(), kept)
        self.assertEqual(set_line(alphabet, "ba"), ("#.#..", "#.###"))

    def test_a_tuple_for_a_list(self):
        self.assertEqual(dots.shifted(FACE, (1, 0, -1)), dots.shifted(FACE, [1, 0, -1]))
        self.assertEqual(dots.with_turned(FACE, ((0, 0),)), dots.with_turned(FACE, [(0, 0)]))
        self.assertEqual(Alphabet(2, tuple(SHAPES)), Alphabet(2, SHAPES))

    def test_what_is_refused_changes_nothing(self):
        alphabet = Alphabet(2, SHAPES)
        steps, places, shapes = [0, 0, 9], [(0, 0), (9, 9)], [*SHAPES, None]
        refusal(self, NoPlace, dots.shifted, FACE, steps)
        refusal(self, NoPlace, dots.with_turned, FACE, places)
        refusal(self, NoShape, Alphabet, 2, shapes)
        refusal(self, NoShape, alphabet.with_shape, "a", ("#", "#"))
        refusal(self, NoShape, alphabet.without, 2)
        refusal(self, NoSign, set_line, alphabet, "x")
        self.assertEqual((steps, places, shapes), ([0, 0, 9], [(0, 0), (9, 9)], [*SHAPES, None]))
        self.assertEqual(alphabet, Alphabet(2, SHAPES))

    def test_truths_are_no_numbers(self):
        alphabet = Alphabet(2, SHAPES)
        for truth in (True, False):
            refusal(self, NoPlace, dots.cut_out, FACE, truth, 0, 1, 1)
            refusal(self, NoPlace, dots.cut_out, FACE, 0, truth, 1, 1)
            refusal(self, NoPlace, dots.cut_out, FACE, 0, 0, truth, 1)
            refusal(self, NoPlace, dots.cut_out, FACE, 0, 0, 1, truth)
            refusal(self, NoPlace, dots.turned, FACE, truth)
            refusal(self, NoPlace, dots.shifted, FACE, [0, truth, 0])
            refusal(self, NoPlace, dots.cleaned, FACE, truth)
            refusal(self, NoPlace, dots.with_turned, FACE, [(truth, 0)])
            refusal(self, NoPlace, dots.with_turned, FACE, [(0, truth)])
            self.assertEqual(refusal(self, NoShape, Alphabet, truth, [("a", ("#",))]).at, -1)
            self.assertIs(refusal(self, NoShape, alphabet.wide, truth).at, truth)
            self.assertIs(refusal(self, NoShape, alphabet.without, truth).at, truth)
            refusal(self, NoLine, set_line, alphabet, "ab", gap=truth)
            refusal(self, NoLine, set_line, alphabet, "ab", blank=truth)

    def test_truths_are_no_numbers_of_readings(self):
        alphabet = Alphabet(2, SHAPES)
        for truth in (True, False):
            self.assertIs(refusal(self, NoShape, reading.fit, alphabet, LINE, 0, truth).at, truth)
            refusal(self, NoPlace, reading.fit, alphabet, LINE, truth, 0)
            refusal(self, NoLine, reading.drawn, alphabet, truth, ())
            self.assertEqual(refusal(self, TooMany, reading.next_ones, alphabet, LINE, truth).most, 20)
            self.assertEqual(refusal(self, TooMany, words.text_of, alphabet, (), blank=truth).most, 20)
            self.assertIs(refusal(self, NoWord, Lexicon, [], strange=truth).word, None)
            self.assertIs(refusal(self, NoWord, Lexicon, [], blank=truth).word, None)

    def test_truths_are_no_numbers_of_pages(self):
        table = tables.ruled([3], [3], [], least=3)
        for truth in (True, False):
            for call, rest, more in (
                    (parting.parting, (Alphabet(2, SHAPES), truth), {}), (parting.safe, (Alphabet(2, SHAPES), truth), {}),
                    (fields.fields, (FACE,), {"rows": truth}), (fields.fields, (FACE,), {"columns": truth}),
                    (fields.lines_of, (FACE, (0, 0, 1, 1)), {"high": truth, "pitch": 1}),
                    (fields.lines_of, (FACE, (0, 0, 1, 1)), {"high": 1, "pitch": truth}),
                    (fields.lines_of, (FACE, (0, 0, 1, 1)), {"high": 2, "pitch": 2, "above": truth})):
                self.assertEqual(refusal(self, TooMany, call, *rest, **more).most, 60)
            refusal(self, NoLine, fields.line_at, FACE, (0, 0, 1, 1), high=truth)
            refusal(self, NoLine, fields.line_at, FACE, (0, 0, 1, 1), high=3, over=truth)
            self.assertEqual(refusal(self, TooMany, tables.cells, table, least=truth).most, 30)
            refusal(self, NoTable, tables.ruled, [3, truth], [3], [], least=3)
            refusal(self, NoTable, tables.ruled, [3], [3], [(0, 0, 1, truth)], least=3)
            refusal(self, NoPlace, tables.filled, table, truth, ("#",), least=3)

    def test_truths_are_no_numbers_of_works(self):
        lexicon = Lexicon(["ba"])
        stand = Works(Alphabet(2, SHAPES), lexicon)
        stand.lay("a", [LINE])
        for truth in (True, False):
            found = refusal(self, TooMany, searching.places, stand.alphabet(), lexicon, LINE, "a", within=truth)
            self.assertEqual(found.most, 99)
            self.assertEqual(refusal(self, TooMany, stand.search, "a", within=truth).most, 99)
            refusal(self, NoLine, stand.reading, "a", truth)
            refusal(self, NoLine, stand.teach, "a", truth, 0, 1, "x")
            refusal(self, NoPlace, stand.teach, "a", 0, truth, 1, "x")
            refusal(self, NoPlace, stand.teach, "a", 0, 0, truth, "x")
            self.assertIs(refusal(self, NoShape, stand.forget, truth).at, truth)
        self.assertEqual(len(stand.log()), 1)

    def test_the_refusal_told_first(self):
        refusal(self, NoPicture, dots.unlike, None, ("#",))
        refusal(self, NoPicture, dots.unlike, ("##",), None)
        refusal(self, NoPicture, dots.turned, ("#" * 121,), 1)
        self.assertEqual(refusal(self, NoShape, Alphabet, 10, []).at, -1)
        self.assertEqual(refusal(self, NoShape, Alphabet(1, [("a", ("#",))]).without, 1).at, 1)
        self.assertEqual(refusal(self, NoSign, set_line, Alphabet(2, SHAPES), "x" * 200, gap=-1).sign, "x")


class Called(unittest.TestCase):

    def test_names(self):
        for call, names in CALLS.items():
            told = []
            for name, parameter in inspect.signature(call).parameters.items():
                if parameter.kind is inspect.Parameter.KEYWORD_ONLY and "*" not in told:
                    told.append("*")
                told.append(name)
            self.assertEqual(told, names.split())

    def test_by_place_and_by_name(self):
        self.assertEqual(dots.cut_out(wide=2, high=1, left=2, top=0, picture=FACE), dots.cut_out(FACE, 0, 2, 1, 2))
        self.assertEqual(dots.turned(times=1, picture=FACE), dots.turned(FACE, 1))
        self.assertEqual(dots.shifted(steps=[0, 0, 0], picture=FACE), FACE)
        self.assertEqual(dots.cleaned(most=1, picture=FACE), dots.cleaned(FACE, 1))
        self.assertEqual(dots.unlike(other=FACE, one=FACE), 0)
        self.assertEqual(dots.with_turned(places=[], picture=FACE), FACE)
        alphabet = Alphabet(shapes=SHAPES, high=2)
        self.assertEqual(alphabet, Alphabet(2, SHAPES))
        self.assertEqual((alphabet.wide(number=1), len(alphabet.without(number=0))), (3, 1))
        self.assertEqual(len(alphabet.with_shape(picture=("##", ".."), sign="c")), 3)
        told = set_line(text="a b", alphabet=alphabet, blank=2, gap=0)
        self.assertEqual(told, set_line(alphabet, "a b", gap=0, blank=2))

    def test_readings_by_name(self):
        alphabet, lexicon = Alphabet(2, SHAPES), Lexicon(words=["ba"], blank=2, strange=1)
        more = {"lexicon": lexicon, "line": LINE, "alphabet": alphabet}
        first = ((0, 0), (2, 1))
        self.assertEqual(reading.fit(number=1, column=2, line=LINE, alphabet=alphabet), 0)
        self.assertEqual(reading.cost(reading=first, line=LINE, alphabet=alphabet), 0)
        self.assertEqual(reading.read(line=LINE, alphabet=alphabet), (0, first))
        self.assertEqual(reading.next_ones(k=1, line=LINE, alphabet=alphabet), [(0, first)])
        self.assertEqual(reading.drawn(reading=first, wide=5, alphabet=alphabet), LINE)
        self.assertEqual(words.text_of(blank=1, reading=first, alphabet=alphabet), "b a")
        self.assertEqual(words.words_of(reading=first, alphabet=alphabet), [("ba", 0, 2)])
        self.assertEqual(words.cost_by(reading=first, **more), 0)
        self.assertEqual((words.read_by(**more), words.next_by(k=1, **more)), ((0, first), [(0, first)]))
        self.assertEqual(doubts.with_window(column=2, number=1, **more), (0, first))
        self.assertEqual(doubts.without_window(number=1, column=2, **more)[1], doubts.doubts(**more)[1][1])
        self.assertEqual(doubts.sure(least=0, **more), "ba")
        self.assertEqual(lexicon.with_word(word="a").without_word(word="ba").has(word="a"), True)

    def test_pages_by_name(self):
        alphabet = Alphabet(2, SHAPES)
        self.assertEqual(parting.parting(most=3, alphabet=alphabet), parting.parting(alphabet, 3))
        self.assertEqual(parting.safe(most=3, alphabet=alphabet), parting.safe(alphabet, 3))
        self.assertEqual(fields.fields(columns=1, rows=1, picture=FACE), fields.fields(FACE, rows=1, columns=1))
        told = fields.lines_of(above=0, pitch=2, high=1, box=(0, 0, 3, 5), picture=FACE)
        self.assertEqual(told, [(0, 0, 1, 5), (2, 0, 1, 5)])
        self.assertEqual(fields.line_at(over=1, high=4, box=(0, 0, 3, 5), picture=FACE), (".....", *FACE))
        table = tables.ruled(least=4, spans=(), widths=(4,), heights=(4,))
        self.assertEqual(tables.cells(least=4, picture=table), [(0, 0, 1, 1, (1, 1, 4, 4))])
        self.assertEqual(tables.filled(least=4, part=("#",), at=0, picture=table)[2], "#.#..#")

    def test_behind_a_star_by_name_alone(self):
        with self.assertRaises(TypeError):
            set_line(Alphabet(2, SHAPES), "ab", 1)
        with self.assertRaises(TypeError):
            set_line(Alphabet(2, SHAPES), "ab", 1, 3)
        for call in (words.text_of, words.words_of):
            with self.assertRaises(TypeError):
                call(Alphabet(2, SHAPES), (), 3)
        with self.assertRaises(TypeError):
            Lexicon([], 2)

    def test_defined_where_they_are_listed(self):
        for home, names in HOMES.items():
            for name in names.split():
                self.assertEqual(vars(home)[name].__module__, home.__name__)
        for kind, names in METHODS.items():
            for name in names.split():
                self.assertEqual(vars(kind)[name].__module__, kind.__module__)
        listed = {vars(home)[name] for home, names in HOMES.items() for name in names.split()}
        self.assertEqual(listed, {call for call in CALLS if "." not in call.__qualname__})

    def test_nothing_is_looked_into(self):
        self.assertIs(dots.is_picture(Hostile()), False)
        self.assertIs(Alphabet(2, SHAPES) == Hostile(), False)


if __name__ == "__main__":
    unittest.main()
