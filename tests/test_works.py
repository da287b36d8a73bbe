"""Promises 0.2 (f), 10.1 and 10.2: a works behind any row of deeds, and what each deed tells."""

import random
import time
import unittest

from dotread.alphabets import Alphabet, set_line
from dotread.dots import with_turned
from dotread.doubts import doubts
from dotread.errors import DotError, NoBack, NoDeed, NoLine, NoPlace, NoShape, NoSign, NoWord, TooMany
from dotread.searching import places
from dotread.words import Lexicon
from dotread.works import Works, works_of
from tests.keeping import Keeping, frozen, is_logged
from tests.things import full, made, numbers, others, refusal

SHAPES = [("i", ("#", "#")), ("l", ("#.", "##")), ("u", ("#.#", "###"))]
WORDS = ["il", "u", "li"]
LINES = [("#.#.", "#.##"), ("#.#.#", "#.###")]
FIELDS = {NoWord: "word", NoSign: "sign", NoShape: "at", NoDeed: "at", TooMany: "most"}


def pair(shapes=SHAPES, words=WORDS, high=2, strange=2, blank=3):
    """A works and a plain keeping that stand alike."""
    return (Works(Alphabet(high, shapes), Lexicon(words, strange=strange, blank=blank)),
            Keeping(high, shapes, words, strange, blank))


def lines_like(chance, high):
    """Lines that are set, spoilt, or of any dots; sometimes what is no line."""
    lines = []
    for _ in range(chance.randint(0, 3)):
        if high == 2 and chance.random() < 0.7:
            alphabet = Alphabet(2, SHAPES)
            line = set_line(alphabet, chance.choice(["il", "u il", "lul", "i", "ll u"]), gap=chance.randint(0, 1))
            line = with_turned(line, [(chance.randrange(2), chance.randrange(len(line[0])))][:chance.randint(0, 1)])
        else:
            line = made(high, chance.randint(1, 12), chance.randrange(99), of_ten=5)
        lines.append(line)
    if chance.random() < 0.1:
        lines.append(chance.choice([None, (), full(high + 1, 2), full(high, 61), ["##"] * high]))
    return lines if chance.random() < 0.5 else tuple(lines)


def any_deed(chance, keeping):
    """One of the six deeds, mostly one that can be done."""
    word = chance.choice(["lay", "lay", "gone", "teach", "teach", "forget", "learn", "unlearn"])
    name = chance.choice(["a", "b", "c", "zz"])
    if word == "lay":
        return word, name, lines_like(chance, keeping.high)
    if word == "gone":
        return word, name
    if word == "teach":
        return (word, name, chance.choice([0, 0, 1, 2]), chance.randint(0, 6), chance.choice([1, 2, 3, 4, 9]),
                chance.choice("iluxy?"))
    if word == "forget":
        return word, chance.randint(0, len(keeping.shapes))
    return word, chance.choice(["il", "u", "li", "x", "iu", "ux", "l?"])


def any_step(chance, keeping):
    """A deed, several together, or None for back."""
    turn = chance.random()
    if turn < 0.15:
        return None
    if turn < 0.35:
        deeds = [any_deed(chance, keeping) for _ in range(chance.randint(0, 4))]
        if chance.random() < 0.1:
            deeds.insert(chance.randint(0, len(deeds)), chance.choice([("lay", "a"), ("back",), (), None, ["gone", "a"]]))
        if chance.random() < 0.3:
            deeds = [("gone", "a"), ("lay", "a", lines_like(chance, keeping.high)), *deeds]
        return "together", deeds
    return any_deed(chance, keeping)


def do(where, step):
    """Do a step with a works or a keeping; a works by its methods."""
    if step is None:
        return where.back()
    if isinstance(where, Works):
        return getattr(where, step[0])(*step[1:])
    return where.together(step[1]) if step[0] == "together" else where.do(step)


class Compared(unittest.TestCase):

    def outcome(self, where, step):
        """What is told, or the class of the refusal and its field."""
        try:
            return do(where, step)
        except DotError as error:
            field = FIELDS.get(type(error))
            return type(error), None if field is None else getattr(error, field)

    def check(self, works, keeping, chance):
        """All that is told behind the deeds."""
        alphabet, lexicon = keeping.alphabet(), keeping.lexicon()
        self.assertEqual((works.alphabet(), works.lexicon()), (alphabet, lexicon))
        self.assertEqual(works.pages(), sorted(keeping.pages))
        self.assertEqual(works.log(), keeping.deeds)
        lines = [(name, at, line) for name in sorted(keeping.pages) for at, line in enumerate(keeping.pages[name])]
        for name, at, _ in lines:
            self.assertEqual(works.reading(name, at), keeping.reading(name, at))
        for name in keeping.pages:
            self.assertEqual(works.text(name), keeping.text(name))
        if chance.random() < 0.3:
            self.check_searches(works, lines, alphabet, lexicon, chance)

    def check_searches(self, works, lines, alphabet, lexicon, chance):
        pattern, within = chance.choice(["il", "?", "u", "??"]), chance.choice([0, 4, 9, 99])
        self.assertEqual(works.search(pattern, within=within), sorted(
            (more, name, at, column) for name, at, line in lines
            for more, column, _ in places(alphabet, lexicon, line, pattern, within=within)))
        least = chance.choice([0, 1, 3, 50])
        self.assertEqual(works.doubtful(least), sorted(
            (more, name, at, window) for name, at, line in lines
            for window, (more, _) in zip(works.reading(name, at)[1], doubts(alphabet, lexicon, line)) if more < least))

    def led(self, seed, steps, **more):
        chance = random.Random(seed)
        works, keeping = pair(**more)
        told = {}
        for _ in range(steps):
            step = any_step(chance, keeping)
            wanted = self.outcome(keeping, step)
            self.assertEqual(self.outcome(works, step), wanted, step)
            self.check(works, keeping, chance)
            kind = "back" if step is None else step[0]
            told.setdefault(kind, set()).add(wanted[0].__name__ if isinstance(wanted, tuple) else bool(wanted))
        return works, keeping, told


class Led(Compared):

    def test_any_rows_of_deeds(self):
        told = {}
        for seed in range(40):
            more = [{}, {"blank": 1, "strange": 0}, {"blank": 6, "strange": 5, "words": []}, {"high": 1, "shapes": [
                ("i", ("#",)), ("l", ("#.#",)), ("l", ("##",))]}][seed % 4]
            for kind, found in self.led(seed, 40, **more)[2].items():
                told.setdefault(kind, set()).update(found)
        # Each kind of deed was done, some told lines, and each was refused in some way.
        self.assertTrue(all(len(found) > 1 for found in told.values()))
        for kind in ("teach", "forget", "learn", "unlearn", "together", "back"):
            self.assertLessEqual({True, False}, told[kind])
        self.assertLessEqual({"NoWord", "NoLine", False}, told["lay"])
        self.assertNotIn(True, told["lay"] | told["gone"])

    def test_back_to_the_beginning(self):
        for seed in range(10):
            works, keeping, _ = self.led(seed + 100, 25)
            while keeping.deeds:
                self.assertEqual(works.back(), keeping.back())
                self.check(works, keeping, random.Random(seed))
            refusal(self, NoBack, works.back)
            self.assertEqual((works.log(), works.pages()), ([], []))
            self.assertEqual(works.alphabet(), Alphabet(2, SHAPES))

    def test_works_of_each_log(self):
        for seed in range(10):
            works, keeping, _ = self.led(seed + 200, 25)
            start = Alphabet(2, SHAPES), Lexicon(WORDS, strange=2, blank=3)
            again = works_of(*start, works.log())
            self.check(again, keeping, random.Random(seed))
            self.check(works_of(log=tuple(works.log()), lexicon=start[1], alphabet=start[0]), keeping, random.Random(1))
            while keeping.deeds:
                self.assertEqual(again.back(), keeping.back())

    def test_twin_in_both_directions(self):
        for seed in range(10):
            works, keeping, _ = self.led(seed + 300, 15)
            twin, log = works.twin(), works.log()
            other = Keeping(2, SHAPES, WORDS, 2, 3)
            for deed in log:
                other.do(deed)
            chance = random.Random(seed)
            for _ in range(15):
                for here, kept in ((works, keeping), (twin, other)):
                    step = any_step(chance, kept)
                    self.assertEqual(self.outcome(here, step), self.outcome(kept, step))
                self.check(works, keeping, chance)
                self.check(twin, other, chance)


class Deeds(unittest.TestCase):

    def setUp(self):
        self.works, self.keeping = pair(strange=1)
        self.works.lay("a", LINES)
        self.works.lay("b", [("#.#", "#.#")])

    def standing(self):
        works = self.works
        return (works.alphabet().shapes(), works.lexicon().words(), works.pages(), works.log(),
                {name: works.text(name) for name in works.pages()})

    def unchanged(self, kind, call, *rest, **more):
        ahead = self.standing()
        error = refusal(self, kind, call, *rest, **more)
        self.assertEqual(self.standing(), ahead)
        return error

    def test_what_the_small_ones_tell(self):
        works = self.works
        self.assertEqual((works.text("a"), works.text("b")), ("il\nili", "ii"))
        self.assertEqual(works.reading("a", 0), (0, ((0, 0), (2, 1))))
        self.assertEqual(works.learn("ii"), [("b", 0)])
        self.assertEqual(works.teach("b", 0, 0, 3, "n"), [])
        self.assertEqual(works.learn("n"), [])
        self.assertEqual(works.unlearn("ii"), [("b", 0)])
        self.assertEqual(works.text("b"), "n")
        self.assertEqual(works.reading("b", 0), (0, ((0, 3),)))
        self.assertEqual(works.back(), [("b", 0)])
        self.assertEqual(works.text("b"), "ii")
        self.assertEqual(works.forget(0), [("a", 0), ("a", 1), ("b", 0)])

    def test_numbers_alone_are_no_other_reading(self):
        # The shapes behind the one that is forgotten have other numbers, but their lines read as before.
        works = Works(Alphabet(1, [("x", ("###",)), ("i", ("#",))]), Lexicon(["i"]))
        works.lay("a", [("#...",)])
        self.assertEqual(works.reading("a", 0), (0, ((0, 1),)))
        self.assertEqual(works.forget(0), [])
        self.assertEqual(works.reading("a", 0), (0, ((0, 0),)))
        self.assertEqual(works.back(), [])

    def test_another_cost_or_another_sign_is_another_reading(self):
        works = Works(Alphabet(1, [("i", ("#",)), ("j", ("##",))]), Lexicon(["j"], strange=1))
        works.lay("a", [("#....#",), ("##",)])
        self.assertEqual(works.learn("i"), [("a", 0)])
        self.assertEqual(works.reading("a", 0), (0, ((0, 0), (5, 0))))
        works.together([("lay", "b", [("##...#",)]), ("teach", "b", 0, 0, 2 + 1, "k")])
        self.assertEqual(works.together([("forget", 1), ("teach", "b", 0, 0, 2, "m"), ("learn", "m")]),
                         [("a", 1), ("b", 0)])
        self.assertEqual(works.text("a"), "i i\nm")

    def test_a_page_laid_anew(self):
        works = self.works
        told = works.together([("gone", "a"), ("lay", "a", [LINES[0], ("##", "##"), LINES[1]])])
        self.assertEqual(told, [("a", 1)])
        self.assertEqual(works.back(), [("a", 1)])
        self.assertEqual(works.together([("gone", "a"), ("lay", "a", [])]), [])
        self.assertEqual((works.text("a"), works.back()), ("", []))
        self.assertEqual(works.together([("gone", "a"), ("lay", "a", LINES), ("learn", "ili")]), [("a", 1)])

    def test_pages_come_and_go(self):
        works = self.works
        self.assertEqual((works.pages(), works.gone("b"), works.pages()), (["a", "b"], [], ["a"]))
        self.assertEqual(works.back(), [])
        self.assertEqual((works.pages(), works.text("b")), (["a", "b"], "ii"))
        self.assertEqual(works.lay("zzzzzz", []), [])
        self.assertEqual(works.pages(), ["a", "b", "zzzzzz"])
        self.assertEqual(works.lay("c", [("#" * 60,) * 2] * 8), [])

    def test_none_together(self):
        works = self.works
        log = works.log()
        self.assertEqual(works.together([]), [])
        self.assertEqual(works.log(), [*log, ("together", ())])
        self.assertEqual(works.back(), [])
        self.assertEqual(works.log(), log)

    def test_all_or_none(self):
        deeds = [("learn", "x"), ("teach", "b", 0, 0, 3, "n"), ("gone", "a"), ("lay", "q", LINES), ("forget", 9)]
        self.assertEqual(self.unchanged(NoShape, self.works.together, deeds).at, 9)
        self.assertEqual(self.unchanged(NoWord, self.works.together, deeds[:4] + [("learn", "x")]).word, "x")
        self.assertEqual(self.works.together(deeds[:4]), [])
        self.assertEqual(self.works.text("b"), "ii")

    def test_no_deed_ahead_of_all(self):
        works = self.works
        right = ("learn", "x")
        wrong = [*[thing for thing in others()], *numbers(), ("back",), ("together", ()), ("learn",), ("learn", "x", 1),
                 ("lay", "c"), ("gone",), ("teach", "a", 0, 0, 1), ("forget", 0, 0), ("Learn", "x"), ["learn", "x"],
                 ("unlearn", "x", None), (b"learn", "x"), (None, "x"), ("", "x"), "learn", (("learn",), "x"), ("twin",)]
        for thing in wrong:
            self.assertEqual(self.unchanged(NoDeed, works.together, [("forget", 99), right, thing, None]).at, 2)
            self.assertEqual(self.unchanged(NoDeed, works.together, (thing,)).at, 0)
            log = [("forget", 99), ("together", [right, right]), right, ("together", (right, thing))]
            self.assertEqual(refusal(self, NoDeed, works_of, works.alphabet(), works.lexicon(), log).at, 3)
            if not is_logged(thing):
                log = [("forget", 99), thing, None]
                self.assertEqual(refusal(self, NoDeed, works_of, works.alphabet(), works.lexicon(), log).at, 1)
        for thing in [thing for thing in [*others(), *numbers()] if type(thing) not in (list, tuple)]:
            self.assertEqual(self.unchanged(NoDeed, works.together, thing).at, 0)
            self.assertEqual(refusal(self, NoDeed, works_of, works.alphabet(), works.lexicon(), thing).at, 0)
            log = [right, ("together", thing)]
            self.assertEqual(refusal(self, NoDeed, works_of, works.alphabet(), works.lexicon(), log).at, 1)
        self.assertEqual(refusal(self, NoShape, works_of, works.alphabet(), works.lexicon(), [("forget", 99)]).at, 99)
        self.assertEqual(works_of(works.alphabet(), works.lexicon(), []).log(), [])

    def test_no_names(self):
        works = self.works
        for thing in [*others(), *numbers(), "", "A", "aB", "a1", "a b", "abcdefg", "a\n", "\u00e9", "a-"]:
            if type(thing) is str and thing in ("ab",):
                continue
            self.assertIs(self.unchanged(NoWord, works.lay, thing, None).word, thing)
            for call, *rest in ((works.gone,), (works.teach, None, None, None, None), (works.reading, None), (works.text,)):
                self.assertIs(self.unchanged(NoWord, call, thing, *rest).word, thing)
        self.assertEqual(self.unchanged(NoWord, works.lay, "a", LINES).word, "a")
        self.assertEqual(self.unchanged(NoWord, works.gone, "c").word, "c")

    def test_no_lines(self):
        works = self.works
        empty = [thing for thing in others() if type(thing) in (list, tuple) and len(thing) == 0]
        for thing in [*others(), *numbers(), full(2, 61), full(3, 2), [full(2, 61)], [*LINES, full(3, 2)], "##"]:
            self.unchanged(NoLine, works.lay, "c", thing)
            self.unchanged(NoLine, works.lay, "c", [LINES[0], thing])
        self.assertEqual(empty, [])
        self.unchanged(NoLine, works.lay, "c", [LINES[0]] * 9)
        for thing in [*others(), *numbers(), 2]:
            self.unchanged(NoLine, works.reading, "a", thing)
            self.unchanged(NoLine, works.teach, "a", thing, None, None, None)

    def test_teach_refused(self):
        works = self.works
        for thing in [*others(), *numbers(), 5, 4]:
            self.unchanged(NoPlace, works.teach, "a", 0, thing, 1, None)
            if type(thing) is not int or thing not in (4,):
                self.unchanged(NoPlace, works.teach, "a", 0, 0, thing, None)
        self.unchanged(NoPlace, works.teach, "a", 0, 2, 3, None)
        self.unchanged(NoPlace, works.teach, "a", 0, 0, 0, "x")
        works.lay("c", [full(2, 60)])
        self.unchanged(NoPlace, works.teach, "c", 0, 0, 9, "x")
        for thing in [*others(), *numbers(), " ", "ab"]:
            self.assertIs(self.unchanged(NoSign, works.teach, "a", 0, 0, 1, thing).sign, thing)
        self.assertEqual(self.unchanged(NoShape, works.teach, "a", 0, 0, 1, "x").at, 3)
        self.assertEqual(self.unchanged(NoShape, works.teach, "a", 0, 1, 1, "x").at, 3)
        works.teach("c", 0, 52, 8, "?")
        self.assertEqual(works.alphabet().shapes()[3], ("?", full(2, 8)))

    def test_full_alphabets_and_lexicons(self):
        shapes = [("a", tuple("#" if number >> row & 1 else "." for row in range(5))) for number in range(1, 17)]
        works = Works(Alphabet(5, shapes), Lexicon([sign * 2 for sign in "abcdefghijklmnop"]))
        works.lay("a", [made(5, 60, seed, of_ten=5) for seed in range(8)])
        self.assertEqual(refusal(self, NoShape, works.teach, "a", 0, 0, 3, "x").at, 16)
        for thing in ("x", "aa", None, "no word"):
            self.assertIs(refusal(self, NoWord, works.learn, thing).word, None)
        self.assertEqual(works.together([("forget", 15), ("teach", "a", 0, 0, 3, "x"), ("unlearn", "aa"),
                                         ("learn", "x")]), works.back())
        for number in range(15):
            works.forget(0)
        self.assertEqual(refusal(self, NoShape, works.forget, 0).at, 0)
        self.assertEqual(refusal(self, NoShape, works.forget, 1).at, 1)

    def test_no_shapes_and_no_words(self):
        works = self.works
        for thing in [*others(), *numbers(), 3]:
            self.assertIs(self.unchanged(NoShape, works.forget, thing).at, thing)
        for thing in [*others(), *numbers(), "il", "a b", "a" * 9, " "]:
            if type(thing) is not str or thing not in ("ab",):
                self.assertIs(self.unchanged(NoWord, works.learn, thing).word, thing)
        for thing in [*others(), *numbers(), "ab", "i", "IL"]:
            self.assertIs(self.unchanged(NoWord, works.unlearn, thing).word, thing)

    def test_searches_refused(self):
        for works in (self.works, Works(Alphabet(2, SHAPES), Lexicon(WORDS, strange=1))):
            for thing in [*others(), *numbers(), " ", "a" * 9]:
                if type(thing) is not str or thing not in ("ab",):
                    self.assertIs(refusal(self, NoWord, works.search, thing, within=None).word, thing)
            for thing in [*others(), *numbers(), 100]:
                self.assertEqual(refusal(self, TooMany, works.search, "a", within=thing).most, 99)
            with self.assertRaises(TypeError):
                works.search("a", 4)
        self.assertEqual((works.search("il"), works.doubtful(99), works.pages()), ([], [], []))

    def test_searches(self):
        works = self.works
        self.assertEqual(works.search("il", within=0), [(0, "a", 0, 0)])
        self.assertEqual(works.search("i?"), works.search("i?", within=4))
        self.assertIn((0, "b", 0, 0), works.search("i?", within=2))
        self.assertEqual(works.doubtful(0), [])
        self.assertEqual([name for _, name, _, _ in works.doubtful(99)].count("b"), len(works.reading("b", 0)[1]))

    def test_handed_in_and_told_changed_later(self):
        works, _ = pair(strange=1)
        lines, inner = list(LINES), list(LINES)
        deeds = [("lay", "b", inner), ("learn", "x")]
        works.lay("a", lines)
        works.together(deeds)
        told = works.log()
        self.assertEqual(told, [("lay", "a", tuple(LINES)), ("together", (("lay", "b", tuple(LINES)), ("learn", "x")))])
        self.assertEqual((lines, inner, deeds), (LINES, LINES, [("lay", "b", LINES), ("learn", "x")]))
        lines.clear()
        inner[0] = None
        deeds.clear()
        for tell in (works.log, works.pages, lambda: works.search("il"), lambda: works.doubtful(99),
                     lambda: works.twin().learn("q"), works.alphabet().shapes, works.lexicon().words):
            first = tell()
            kept = list(first)
            first.clear()
            self.assertEqual(tell(), kept)
        self.assertEqual((works.text("a"), works.text("b")), ("il\nili", "il\nili"))
        log = works.log()
        again = works_of(Alphabet(2, SHAPES), Lexicon(WORDS, strange=1), log)
        log.clear()
        self.assertEqual(again.log(), works.log())
        self.assertEqual(frozen(again.log()), tuple(again.log()))

    def test_lists_in_a_log(self):
        log = [("lay", "a", list(LINES)), ("together", [("lay", "b", [LINES[0]]), ("gone", "a")]), ("together", [])]
        works = works_of(Alphabet(2, SHAPES), Lexicon(WORDS, strange=1), log)
        self.assertEqual(works.log(), list(frozen(log)))
        log[0][2].clear()
        log[1][1].clear()
        self.assertEqual(works.back(), [])
        self.assertEqual(works.back(), [])
        self.assertEqual(works.text("a"), "il\nili")

    def test_by_name(self):
        works, _ = pair(strange=1)
        works.lay(lines=LINES, name="a")
        works.teach(sign="n", wide=2, column=0, at=1, name="a")
        self.assertEqual(works.alphabet().shapes()[3], ("n", ("#.", "#.")))
        works.forget(number=3)
        works.learn(word="x")
        works.unlearn(word="x")
        works.together(deeds=())
        self.assertEqual(works.reading(at=0, name="a"), works.reading("a", 0))
        self.assertEqual(works.text(name="a"), "il\nili")
        self.assertEqual(works.search(within=0, pattern="il"), [(0, "a", 0, 0)])
        self.assertEqual(works.doubtful(least=0), [])
        works.gone(name="a")
        self.assertEqual(len(works.log()), 7)


class InTime(unittest.TestCase):

    def test_great_works(self):
        chance = random.Random(1)
        signs = "abcdefghijklmnop"
        shapes = [(sign, made(9, chance.randint(1, 5), 300 + at, of_ten=5)) for at, sign in enumerate(signs[:15])]
        words = sorted({"".join(chance.choice(signs) for _ in range(3)) for _ in range(13)})[:12]
        works = Works(Alphabet(9, shapes), Lexicon(words, strange=3, blank=6))
        for page in range(4):
            works.lay("abcd"[page], [made(9, 60, page * 8 + at, of_ten=5) for at in range(8)])
        steps = [("teach", "a", 0, 3, 5, "p"), None, ("learn", "ab"), ("unlearn", "ab"), ("forget", 3), None,
                 ("together", [("forget", 0), ("teach", "b", 7, 50, 8, "q"), ("learn", "q"), ("gone", "c")]), None]
        for step in steps:
            started = time.perf_counter()
            do(works, step)
            self.assertLess(time.perf_counter() - started, 3)
        for tell in (lambda: works.search("????????", within=99), lambda: works.doubtful(9), works.twin,
                     lambda: works_of(Alphabet(9, shapes), Lexicon(words, strange=3, blank=6), works.log())):
            started = time.perf_counter()
            tell()
            self.assertLess(time.perf_counter() - started, 4)


if __name__ == "__main__":
    unittest.main()
