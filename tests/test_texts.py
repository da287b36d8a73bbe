"""Promises 0.2 (g) and 11.1: texts of alphabets, pictures and places, and what they are read to."""

import random
import re
import unittest

from dotread.alphabets import Alphabet, set_line
from dotread.errors import NoLine, NoPicture, NoReading, NoText
from dotread.reading import fit, next_ones, read
from dotread.texts import alphabet_text, picture_text, places_text, read_alphabet, read_picture, read_places
from tests.brute import NARROW, NEAR, ONE, PARTS, SMALL
from tests.things import full, made, numbers, others, refusal

NEAR_TEXT = "high 2\nsign a\n##\n##\nsign b\n##\n#.\nsign c\n#.\n##\n"
SIXTEEN = Alphabet(4, [("a", tuple("#" if at >> row & 1 else "." for row in range(4))) for at in range(1, 16)]
                   + [("~", full(4, 8))])


def is_shape(rows, ahead):
    """Whether a shape's rows are one, and not there already."""
    return "#" in "".join(rows) and rows not in ahead


def begins_alphabet(rows):
    """Whether rows may begin an alphabet's text, a shape that is none told at its last row alone."""
    if not re.fullmatch("high [1-9]", rows[0], re.A):
        return False
    high = int(rows[0].split(" ")[1])
    ahead = []
    for start in range(1, len(rows), high + 1):
        sign, drawn = rows[start], rows[start + 1:start + 1 + high]
        if not re.fullmatch("sign [!-~]", sign, re.A) or len(ahead) == 16:
            return False
        if any(not re.fullmatch("[#.]{1,8}", row) or len(row) != len(drawn[0]) for row in drawn):
            return False
        if len(drawn) == high and not is_shape(drawn, ahead):
            return False
        ahead.append(drawn)
    return True


def begins_picture(rows):
    """Whether rows may begin a picture's text."""
    return len(rows) <= 60 and all(re.fullmatch("[#.]{1,120}", row) and len(row) == len(rows[0]) for row in rows)


def begins_places(rows):
    """Whether rows may begin a text of places."""
    figures = "(0|[1-9][0-9]{0,3})"
    return all(re.fullmatch(f"{figures} {figures} {figures} [!-~]", row, re.A) for row in rows)


def is_over(rows, kind):
    """Whether no row lacks."""
    if kind == "alphabet":
        return len(rows) > 1 and (len(rows) - 1) % (int(rows[0][5]) + 1) == 0
    return kind == "places" or len(rows) > 0


BEGINS = {"alphabet": begins_alphabet, "picture": begins_picture, "places": begins_places}
READ = {"alphabet": read_alphabet, "picture": read_picture, "places": read_places}


def wrong_at(text, kind):
    """The number with which a text is to be refused, or None."""
    rows = text.split("\n")
    for behind in range(1, len(rows) + 1):
        if behind == len(rows):
            if rows[-1]:
                return behind - 1
        elif not BEGINS[kind](rows[:behind]):
            return behind - 1
    return None if is_over(rows[:-1], kind) else len(rows) - 1


def spoilt(text, chance):
    """The text spoilt in many ways."""
    for at in range(len(text) + 1):
        for sign in ["#", ".", "\n", " ", "0", "9", "a"]:
            yield text[:at] + sign + text[at:]
            yield text[:at] + sign + text[at + 1:]
        yield text[:at] + text[at + 1:]
        yield text[:at]
    rows = text.split("\n")
    for at, row in enumerate(rows):
        yield "\n".join(rows[:at] + rows[at + 1:])
        yield "\n".join(rows[:at] + [row] + rows[at:])
        yield "\n".join(rows[:at] + ["", ""] + rows[at:])
        other = chance.randrange(len(rows))
        changed = list(rows)
        changed[at], changed[other] = changed[other], changed[at]
        yield "\n".join(changed)


class Texts(unittest.TestCase):

    def check_spoilt(self, text, kind, write):
        told = set()
        for other in spoilt(text, random.Random(len(text))):
            at = wrong_at(other, kind)
            if at is None:
                self.assertEqual(write(READ[kind](other)), other)
            else:
                self.assertEqual(refusal(self, NoText, READ[kind], other).at, at, other)
                told.add(at)
        self.assertGreater(len(told), min(2, text.count("\n") - 1))

    def check_no_texts(self, call):
        for thing in [*[thing for thing in others() if type(thing) is not str], *numbers(), ["high 1"], b"#\n"]:
            self.assertEqual(refusal(self, NoText, call, thing).at, 0)


class Alphabets(Texts):

    def test_row_by_row(self):
        self.assertEqual(alphabet_text(NEAR), NEAR_TEXT)
        self.assertEqual(alphabet_text(ONE), "high 1\nsign a\n#\n")
        self.assertEqual(read_alphabet(NEAR_TEXT), NEAR)

    def test_each_read_back(self):
        for alphabet in [*SMALL, SIXTEEN, Alphabet(9, [("?", made(9, 8, 1)), ("?", made(9, 1, 2, of_ten=5))])]:
            self.assertEqual(read_alphabet(alphabet_text(alphabet)), alphabet)
            self.assertEqual(read_alphabet(alphabet_text(alphabet)).shapes(), alphabet.shapes())

    def test_spoilt(self):
        for alphabet in (NEAR, ONE, PARTS, NARROW, Alphabet(9, [("#", made(9, 8, 1))])):
            self.check_spoilt(alphabet_text(alphabet), "alphabet", alphabet_text)

    def test_as_told(self):
        for text, at in (
                ("", 0), ("\n", 0), ("high 1", 0), ("high 0\n", 0), ("high 10\n", 0), ("high  1\n", 0), ("high 01\n", 0),
                ("High 1\n", 0), ("high 1\n", 1), ("high 1\nsign a\n", 2), ("high 1\nsign a", 1), ("high 1\nsign a\n#", 2),
                ("high 1\nsign a\n.\n", 2), ("high 2\nsign a\n.\n", 3), ("high 2\nsign a\n.\n.\n", 3),
                ("high 2\nsign a\n.\n..\n", 3), ("high 1\nsign a\n#########\n", 2), ("high 1\nsign a\n\n", 2),
                ("high 1\nsign ab\n#\n", 1), ("high 1\nsign  \n#\n", 1), ("high 1\nsign \n#\n", 1),
                ("high 1\nsign a\n#\nsign b\n#\n", 4), ("high 1\nsign a\n#\nsign b\n", 4), ("high 1\nsign a\n#\n\n", 3),
                ("high 2\nsign a\n#\n#\nsign a\n#\n#\n", 6), ("high 2\nsign a\n#\n#\nsign a\n#\n", 6),
                ("high 2\nsign a\n#\n.\nsign a\n.\n#\nsign a\n#\n#\nsign a\n#\n", 12),
                ("high 2\nsign a\n#\n.\nsign a\n.\n#\nsign a\n#\n#\nsign a\n#\n#\n", 12),
                ("high 2\nsign a\n#\n.\nsign a\n.\n#\nsign a\n#\n#\nsign a\n#\n##\n", 12)):
            self.assertEqual(refusal(self, NoText, read_alphabet, text).at, at, text)

    def test_a_seventeenth(self):
        text = alphabet_text(SIXTEEN)
        self.assertEqual(text.count("\n"), 81)
        for more, at in (("sign a\n", 81), ("sign a", 81), ("x\n", 81), ("sign a\n#\n#\n#\n#\n", 81)):
            self.assertEqual(refusal(self, NoText, read_alphabet, text + more).at, at)

    def test_no_texts(self):
        self.check_no_texts(read_alphabet)
        for thing in [thing for thing in others() if type(thing) is str]:
            self.assertEqual(refusal(self, NoText, read_alphabet, thing).at, 0)


class Pictures(Texts):

    def test_row_by_row(self):
        self.assertEqual(picture_text(("#.", "..")), "#.\n..\n")
        self.assertEqual(read_picture("#.\n..\n"), ("#.", ".."))
        self.assertEqual(read_picture(".\n"), (".",))

    def test_each_read_back(self):
        for rows, columns in ((1, 1), (60, 120), (60, 1), (1, 120), (7, 9)):
            self.assertEqual(read_picture(picture_text(made(rows, columns, 1))), made(rows, columns, 1))

    def test_spoilt(self):
        for picture in (("#",), made(3, 4, 1), full(5, 1), full(1, 9), full(2, 2, ".")):
            self.check_spoilt(picture_text(picture), "picture", picture_text)

    def test_bounds(self):
        self.assertEqual(refusal(self, NoText, read_picture, "").at, 0)
        self.assertEqual(refusal(self, NoText, read_picture, "\n").at, 0)
        self.assertEqual(refusal(self, NoText, read_picture, "#" * 121 + "\n").at, 0)
        self.assertEqual(refusal(self, NoText, read_picture, "#\n" * 61).at, 60)
        self.assertEqual(refusal(self, NoText, read_picture, "#\n" * 60 + "#").at, 60)
        self.assertEqual(refusal(self, NoText, read_picture, "#\n" * 59 + "#").at, 59)
        self.assertEqual(refusal(self, NoText, read_picture, "#\n##\n#").at, 1)

    def test_refusals(self):
        self.check_no_texts(read_picture)
        for thing in [*others(), *numbers(), ["#"], ("#", "##"), full(61, 1)]:
            refusal(self, NoPicture, picture_text, thing)


class Places(Texts):

    def test_row_by_row(self):
        line = set_line(PARTS, "ul i")
        reading = read(PARTS, line)[1]
        self.assertEqual(places_text(PARTS, line, reading), "0 3 0 u\n4 2 0 l\n9 1 0 i\n")
        self.assertEqual(places_text(PARTS, line, ((4, 0),)), "4 3 2 u\n")
        self.assertEqual(places_text(PARTS, line, ()), "")
        self.assertEqual(read_places("0 3 0 u\n4 2 0 l\n9 1 0 i\n"), [(0, 3, 0, "u"), (4, 2, 0, "l"), (9, 1, 0, "i")])

    def test_each_read_back(self):
        for alphabet in SMALL:
            for seed in range(3):
                line = made(alphabet.high(), 60 - seed, seed, of_ten=5)
                for _, reading in next_ones(alphabet, line, 3):
                    wanted = [(column, alphabet.wide(number), fit(alphabet, line, column, number),
                               alphabet.shapes()[number][0]) for column, number in reading]
                    self.assertEqual(read_places(places_text(alphabet, line, reading)), wanted)

    def test_spoilt(self):
        def write(places):
            return "".join(f"{column} {wide} {cost} {sign}\n" for column, wide, cost, sign in places)
        for text in ("0 3 0 u\n14 2 10 l\n", "9999 1 0 #\n", "0 0 0 ?\n1 1 1 1\n0 0 0 0\n"):
            self.assertEqual(write(read_places(text)), text)
            self.check_spoilt(text, "places", write)

    def test_as_told(self):
        self.assertEqual(read_places(""), [])
        self.assertEqual(read_places("9999 0 1000 ~\n0 0 0 !\n"), [(9999, 0, 1000, "~"), (0, 0, 0, "!")])
        for text, at in (("\n", 0), ("0 3 0 u", 0), ("00 3 0 u\n", 0), ("0 03 0 u\n", 0), ("0 3 00 u\n", 0),
                         ("10000 3 0 u\n", 0), ("0  3 0 u\n", 0), ("0 3 0\n", 0), ("0 3 0 \n", 0), ("0 3 0 uu\n", 0),
                         ("0 3 0 u \n", 0), (" 0 3 0 u\n", 0), ("-1 3 0 u\n", 0), ("+1 3 0 u\n", 0), ("0 3 0 u\n1", 1),
                         ("0 3 0 u\n\n", 1), ("0 3 0 u\n0 3 0 u\n0 3 u\n", 2), ("0 3  u\n", 0), ("0 3 0  \n", 0)):
            self.assertEqual(refusal(self, NoText, read_places, text).at, at, text)
        read_places("0 3 0 u\n").clear()
        self.assertEqual(read_places("0 3 0 u\n"), [(0, 3, 0, "u")])

    def test_refusals(self):
        self.check_no_texts(read_places)
        line = set_line(PARTS, "ul")
        for thing in [*others(), *numbers(), full(3, 3), full(2, 61)]:
            refusal(self, NoLine, places_text, PARTS, thing, None)
        for thing in [*others(), *numbers(), ((0, 4),), ((5, 0),), ((0, 0), (2, 0)), [(0, 0)], ((4, 1), (0, 0)), ((6, 2),)]:
            if type(thing) is not tuple or thing != ():
                refusal(self, NoReading, places_text, PARTS, line, thing)


class AsToldBefore(unittest.TestCase):

    def test_by_name(self):
        line = set_line(NEAR, "ab")
        self.assertEqual(alphabet_text(alphabet=NEAR), NEAR_TEXT)
        self.assertEqual(picture_text(picture=line), "##.##\n##.#.\n")
        self.assertEqual(places_text(reading=((0, 0),), line=line, alphabet=NEAR), "0 2 0 a\n")
        self.assertEqual(read_alphabet(text=NEAR_TEXT), NEAR)
        self.assertEqual(read_picture(text="#\n"), ("#",))
        self.assertEqual(read_places(text=""), [])


if __name__ == "__main__":
    unittest.main()
