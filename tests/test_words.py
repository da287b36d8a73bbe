"""Promise 4.1, what it says of texts and words of readings, and of lexicons."""

import unittest

from dotread.alphabets import Alphabet
from dotread.errors import NoReading, NoWord, TooMany
from dotread.words import Lexicon, text_of, words_of
from tests.brute import MARGINS, NARROW, ONE, ONE_SIGN, PARTS, all_readings, spelled
from tests.test_reading import no_readings
from tests.things import AlwaysEqual, Hostile, numbers, others, refusal

WORDS = ["cab", "ab", "abc", "?", "~!", "zzzzzzzz"]
SIXTEEN = [f"w{number}" for number in range(16)]


def no_words():
    """What is no word."""
    return [*[thing for thing in others() if type(thing) is not str], *numbers(), 0, 7, "", " ", "a b", " a", "a ", "a\n",
            "\n", "\x7f", "\u00e9", "a\u00e9", "abcdefghi", "a" * 1000, b"ab", ["ab"], ("ab",), ["a", "b"], {"ab"}]


def no_bounds(least, most):
    """What is no number from least to most."""
    return [*others(), *numbers(), least - 1, most + 1, str(least), [least], (least,)]


class Texts(unittest.TestCase):

    def test_by_hand(self):
        reading = ((0, 0), (4, 2), (8, 1), (11, 2))
        self.assertEqual(text_of(PARTS, reading), "ui li")
        self.assertEqual(text_of(PARTS, reading, blank=1), "u i l i")
        self.assertEqual(text_of(PARTS, reading, blank=4), "uili")
        self.assertEqual(words_of(PARTS, reading), [("ui", 0, 2), ("li", 2, 4)])
        self.assertEqual(words_of(PARTS, reading, blank=1), [("u", 0, 1), ("i", 1, 2), ("l", 2, 3), ("i", 3, 4)])
        self.assertEqual(words_of(PARTS, reading, blank=4), [("uili", 0, 4)])

    def test_without_windows(self):
        for blank in range(1, 21):
            self.assertEqual(text_of(PARTS, (), blank=blank), "")
            self.assertEqual(words_of(PARTS, (), blank=blank), [])
        self.assertEqual((text_of(ONE, ()), words_of(ONE, ())), ("", []))

    def test_just_blank_columns_and_one_less(self):
        for blank in range(1, 21):
            for number in range(4):
                edge = 2 + PARTS.wide(number)
                apart, near = ((2, number), (edge + blank, 1)), ((2, number), (edge + blank - 1, 1))
                sign = PARTS.shapes()[number][0]
                self.assertEqual(text_of(PARTS, apart, blank=blank), f"{sign} l")
                self.assertEqual(text_of(PARTS, near, blank=blank), f"{sign}l")
                self.assertEqual(words_of(PARTS, apart, blank=blank), [(sign, 0, 1), ("l", 1, 2)])
                self.assertEqual(words_of(PARTS, near, blank=blank), [(f"{sign}l", 0, 2)])

    def test_three_are_the_usual_blank(self):
        self.assertEqual(text_of(ONE, ((0, 0), (3, 0), (7, 0))), "aa a")
        self.assertEqual(words_of(ONE, ((0, 0), (3, 0), (7, 0))), [("aa", 0, 2), ("a", 2, 3)])

    def test_white_at_the_ends_is_no_blank(self):
        self.assertEqual(text_of(ONE, ((59, 0),), blank=1), "a")
        self.assertEqual(words_of(ONE, ((30, 0),), blank=1), [("a", 0, 1)])

    def test_white_within_a_shape_is_no_blank(self):
        self.assertEqual(text_of(MARGINS, ((0, 0), (3, 2), (7, 0)), blank=1), "aca")

    def test_each_reading(self):
        for alphabet, columns in ((PARTS, 6), (ONE_SIGN, 5), (MARGINS, 6), (ONE, 9)):
            for reading in all_readings(alphabet, columns):
                for blank in (1, 2, 3, 7):
                    text = spelled(alphabet, reading, blank)
                    self.assertEqual(text_of(alphabet, reading, blank=blank), text)
                    self.check_words(alphabet, reading, blank, text)

    def check_words(self, alphabet, reading, blank, text):
        words = words_of(alphabet, reading, blank=blank)
        self.assertEqual([word for word, _, _ in words], text.split())
        self.assertEqual([number for _, first, behind in words for number in range(first, behind)],
                         list(range(len(reading))))
        for word, first, behind in words:
            self.assertEqual("".join(alphabet.shapes()[number][0] for _, number in reading[first:behind]), word)

    def test_kinds_and_new_lists(self):
        told = words_of(PARTS, ((0, 0), (9, 1)))
        self.assertIs(type(told), list)
        self.assertTrue(all(type(triple) is tuple and len(triple) == 3 for triple in told))
        told.clear()
        self.assertEqual(words_of(PARTS, ((0, 0), (9, 1))), [("u", 0, 1), ("l", 1, 2)])

    def test_long_words(self):
        reading = tuple((column, 0) for column in range(60))
        self.assertEqual(text_of(ONE, reading, blank=1), "a" * 60)
        self.assertEqual(words_of(ONE, reading, blank=1), [("a" * 60, 0, 60)])
        self.assertEqual(text_of(ONE, reading[::2], blank=1), " ".join("a" * 30))

    def test_too_many(self):
        for tell in (text_of, words_of):
            for blank in no_bounds(1, 20):
                for reading in ((), ((0, 0),), ((0, 0), (59, 2))):
                    self.assertEqual(refusal(self, TooMany, tell, PARTS, reading, blank=blank).most, 20)

    def test_no_reading_ahead_of_too_many(self):
        for tell in (text_of, words_of):
            for thing in no_readings(60):
                for blank in (3, 0, 21, None, Hostile()):
                    refusal(self, NoReading, tell, PARTS, thing, blank=blank)

    def test_the_last_window_of_a_line(self):
        for number in range(4):
            last = 60 - PARTS.wide(number)
            sign = PARTS.shapes()[number][0]
            self.assertEqual(text_of(PARTS, ((last, number),)), sign)
            self.assertEqual(words_of(PARTS, ((last, number),)), [(sign, 0, 1)])
            refusal(self, NoReading, text_of, PARTS, ((last + 1, number),))
            refusal(self, NoReading, words_of, PARTS, ((last + 1, number),))


class LexiconMade(unittest.TestCase):

    def test_told(self):
        lexicon = Lexicon(WORDS)
        self.assertEqual(lexicon.words(), ["?", "ab", "abc", "cab", "zzzzzzzz", "~!"])
        self.assertIs(type(lexicon.words()), list)
        for word in WORDS:
            self.assertIs(lexicon.has(word), True)
        for word in ("", "a", "abcd", "b", "AB", "ab ", "zzzzzzz", "zzzzzzzzz", "!~"):
            self.assertIs(lexicon.has(word), False)

    def test_has_of_anything(self):
        for thing in [*others(), *numbers(), WORDS, tuple(WORDS), b"ab", ["ab"], ("ab",), Hostile(), AlwaysEqual()]:
            if type(thing) is not str or thing != "ab":
                self.assertIs(Lexicon(WORDS).has(thing), False)
                self.assertIs(Lexicon([]).has(thing), False)

    def test_bounds(self):
        self.assertEqual(Lexicon([]).words(), [])
        self.assertEqual(Lexicon(()).words(), [])
        self.assertEqual(Lexicon(SIXTEEN).words(), sorted(SIXTEEN))
        self.assertEqual(Lexicon(tuple(SIXTEEN)).words(), sorted(SIXTEEN))
        for strange in (0, 1, 98, 99):
            for blank in (1, 2, 19, 20):
                self.assertEqual(Lexicon(WORDS, strange=strange, blank=blank).words(), sorted(WORDS))
        for many in range(1, 9):
            self.assertEqual(Lexicon(["a" * many]).words(), ["a" * many])

    def test_each_sign(self):
        for code in range(33, 127):
            if chr(code) != "%":
                self.assertEqual(Lexicon([chr(code), "a" + chr(code)]).has("a" + chr(code)), True)

    def test_no_list(self):
        wrong = [*numbers(), None, True, "", "ab", b"", {}, {"ab": 1}, set(), {"ab"}, Hostile(), AlwaysEqual(), range(0),
                 iter(WORDS), dict.fromkeys(WORDS).keys(), Lexicon(WORDS), (word for word in WORDS)]
        for words in wrong:
            self.check(None, words)
            self.check(None, words, strange=-1, blank=None)

    def check(self, word, words, **more):
        self.assertIs(refusal(self, NoWord, Lexicon, words, **more).word, word)

    def test_the_first_that_is_none(self):
        for thing in no_words():
            self.check(thing, [thing])
            self.check(thing, [thing, ""])
            self.check(thing, ["ab", thing, None, "ab"])
            self.check(thing, ("ab", "cab", thing))
            self.check(thing, [*SIXTEEN[:15], thing])
            self.check(thing, [*SIXTEEN[:15], thing, "x"])
            self.check(thing, ["ab", thing], strange=100, blank=0)

    def test_the_first_that_stands_twice(self):
        for words, twice in ((["a", "a"], "a"), (["a", "b", "b", "a", ""], "b"), (["a", "b", "a", "b", None], "a"),
                             ([*SIXTEEN[:15], "w3"], "w3"), ([*SIXTEEN[:15], "w3", "x"], "w3")):
            self.assertEqual(refusal(self, NoWord, Lexicon, words).word, twice)
            self.assertEqual(refusal(self, NoWord, Lexicon, words, strange=None).word, twice)
        self.assertEqual(refusal(self, NoWord, Lexicon, ["a", "", "a"]).word, "")

    def test_a_seventeenth(self):
        for thing in [*no_words(), "x", "w3", "abcdefgh"]:
            self.check(None, [*SIXTEEN, thing])
            self.check(None, (*SIXTEEN, thing, thing))
            self.check(None, [*SIXTEEN, thing], strange=None, blank=None)
        self.check(None, [*SIXTEEN, *[""] * 1000])

    def test_strange_and_blank(self):
        for thing in no_bounds(0, 99):
            self.check(None, WORDS, strange=thing)
            self.check(None, [], strange=thing, blank=0)
        for thing in no_bounds(1, 20):
            self.check(None, WORDS, blank=thing)
            self.check(None, [], strange=0, blank=thing)

    def test_by_name_alone(self):
        with self.assertRaises(TypeError):
            Lexicon(WORDS, 2)
        with self.assertRaises(TypeError):
            Lexicon(WORDS, 2, 3)


class OtherLexicons(unittest.TestCase):

    def test_with_a_word(self):
        lexicon = Lexicon(WORDS, strange=7, blank=5)
        told = lexicon.with_word("b")
        self.assertEqual(told, Lexicon([*WORDS, "b"], strange=7, blank=5))
        self.assertEqual(told.words(), sorted([*WORDS, "b"]))
        self.assertEqual(lexicon, Lexicon(WORDS, strange=7, blank=5))
        self.assertEqual(Lexicon([]).with_word("abcdefgh").words(), ["abcdefgh"])

    def test_with_none_or_one_that_is_there(self):
        for thing in no_words():
            self.assertIs(refusal(self, NoWord, Lexicon(WORDS).with_word, thing).word, thing)
            self.assertIs(refusal(self, NoWord, Lexicon([]).with_word, thing).word, thing)
        for word in WORDS:
            self.assertEqual(refusal(self, NoWord, Lexicon(WORDS).with_word, word).word, word)

    def test_with_a_seventeenth(self):
        fifteen = Lexicon(SIXTEEN[:15])
        self.assertEqual(fifteen.with_word("w15"), Lexicon(SIXTEEN))
        self.assertEqual(refusal(self, NoWord, fifteen.with_word, "w3").word, "w3")
        for thing in [*no_words(), "x", "w3", "w15"]:
            self.assertIs(refusal(self, NoWord, Lexicon(SIXTEEN).with_word, thing).word, None)

    def test_without_a_word(self):
        lexicon = Lexicon(WORDS, strange=7, blank=5)
        for word in WORDS:
            left = [other for other in WORDS if other != word]
            self.assertEqual(lexicon.without_word(word), Lexicon(left, strange=7, blank=5))
            self.assertIs(lexicon.without_word(word).has(word), False)
        self.assertEqual(lexicon, Lexicon(WORDS, strange=7, blank=5))
        self.assertEqual(Lexicon(["ab"]).without_word("ab"), Lexicon([]))
        self.assertEqual(Lexicon(SIXTEEN).without_word("w3").with_word("x").words(), sorted({*SIXTEEN, "x"} - {"w3"}))

    def test_without_one_that_is_not_there(self):
        for thing in [*no_words(), "b", "abcd", "AB"]:
            self.assertIs(refusal(self, NoWord, Lexicon(WORDS).without_word, thing).word, thing)
            self.assertIs(refusal(self, NoWord, Lexicon([]).without_word, thing).word, thing)
        self.assertEqual(refusal(self, NoWord, Lexicon(SIXTEEN).without_word, "x").word, "x")


class Compared(unittest.TestCase):

    def test_equal(self):
        lexicon = Lexicon(WORDS)
        for other in (lexicon, Lexicon(list(WORDS)), Lexicon(tuple(WORDS)), Lexicon(WORDS, strange=2, blank=3),
                      lexicon.with_word("b").without_word("b"), Lexicon(WORDS[::-1])):
            self.assertIs(lexicon == other, True)
            self.assertIs(lexicon != other, False)

    def test_not_equal(self):
        lexicon = Lexicon(WORDS)
        for other in (Lexicon(WORDS, strange=3), Lexicon(WORDS, blank=2), Lexicon(WORDS[1:]), Lexicon([*WORDS, "b"]),
                      Lexicon([*WORDS[1:], "b"]), Lexicon([]), Lexicon(WORDS, strange=3, blank=2)):
            self.assertIs(lexicon == other, False)
            self.assertIs(lexicon != other, True)

    def test_other_things(self):
        for thing in [*others(), *numbers(), WORDS, sorted(WORDS), tuple(WORDS), (WORDS, 2, 3), PARTS]:
            if type(thing) is AlwaysEqual:
                continue
            self.assertIs(Lexicon(WORDS) == thing, False)
            self.assertIs(Lexicon(WORDS) != thing, True)


class Unchanged(unittest.TestCase):

    def test_words_handed_in_may_be_changed_later(self):
        words = list(WORDS)
        lexicon = Lexicon(words)
        self.assertEqual(words, WORDS)
        words[0] = None
        words.append("x")
        self.assertEqual(lexicon, Lexicon(WORDS))
        self.assertEqual(lexicon.with_word("x").words(), sorted([*WORDS, "x"]))
        self.assertEqual((lexicon.has("cab"), lexicon.has("x")), (True, False))

    def test_told_lists_are_new_ones(self):
        lexicon = Lexicon(WORDS)
        lexicon.words().clear()
        lexicon.words().append("x")
        self.assertEqual(lexicon.words(), sorted(WORDS))
        self.assertIs(lexicon.has("x"), False)

    def test_what_is_refused_changes_nothing(self):
        words, lexicon = ["ab", "ab"], Lexicon(WORDS)
        refusal(self, NoWord, Lexicon, words)
        refusal(self, NoWord, lexicon.with_word, "ab")
        refusal(self, NoWord, lexicon.without_word, "x")
        self.assertEqual((words, lexicon), (["ab", "ab"], Lexicon(WORDS)))

    def test_readings_and_alphabets(self):
        reading = ([0, 0],)
        refusal(self, NoReading, text_of, NARROW, reading)
        self.assertEqual(reading, ([0, 0],))
        self.assertEqual(NARROW, Alphabet(3, NARROW.shapes()))


if __name__ == "__main__":
    unittest.main()
