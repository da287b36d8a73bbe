"""Promise 12.1: a desk led by rows of text, against a works led by the same deeds."""

import random
import unittest

from dotread.alphabets import Alphabet, set_line
from dotread.desk import Desk
from dotread.errors import DotError
from dotread.words import Lexicon
from dotread.works import Works
from tests.things import full, made

SHAPES = [("i", ("#", "#")), ("l", ("#.", "##")), ("u", ("#.#", "###"))]
WORDS = ["il", "u"]
PAGE = ["page a", "#.#.....#.#", "#.##....###", "-", "#.#", "#.#", "end"]


def pair():
    """A desk and a works that stand alike."""
    start = Alphabet(2, SHAPES), Lexicon(WORDS, strange=1, blank=3)
    return Desk(*start), Works(*start)


def dotted(lines):
    """Lines as a desk tells them."""
    return " ".join(f"{name}.{at}" for name, at in lines) or "-"


def refused(call, *rest, **more):
    """What is told, or how its refusal is answered."""
    try:
        return call(*rest, **more)
    except DotError as error:
        return "no " + type(error).__name__.lower()


def answered(works, words):
    """The answer to a row of these words, numbers as such, by a works."""
    kind, *rest = words
    if kind == "page":
        kind = "lay"
    if kind in ("lay", "gone", "teach", "forget", "learn", "unlearn", "back"):
        told = refused(getattr(works, kind), *rest)
        return told if isinstance(told, str) else dotted(told)
    if kind == "read":
        return refused(works.text, *rest).replace("\n", " / ")
    if kind == "cost":
        told = refused(works.reading, *rest)
        return told if isinstance(told, str) else str(told[0])
    if kind == "doubts":
        return ", ".join(f"{name}.{at}.{window[0]} {more}" for more, name, at, window in works.doubtful(*rest)) or "-"
    told = refused(works.search, rest[0], within=rest[1])
    if isinstance(told, str):
        return told
    return ", ".join(f"{more} {name}.{at}.{column}" for more, name, at, column in told) or "-"


def any_rows(chance):
    """The words of a row that has one of the forms, or a page with its rows."""
    name = chance.choice(["a"] * 8 + ["b", "b", "c", "zz", "", "A", "abcdefg", "a1"])
    kind = chance.choice(["page", "page", "page", "gone", "teach", "teach", "forget", "learn", "unlearn", "back", "read",
                          "read", "doubts", "find", "find", "cost", "cost"])
    word = chance.choice(["il", "i?", "u", "li", "x", "", "iluxiluxi", "?", "\u00e9"])
    if kind == "page":
        return ["page", name, [any_line(chance) for _ in range(chance.randint(0, 3))]]
    return [kind, *{
        "gone": [name], "read": [name], "learn": [word], "unlearn": [word], "back": [],
        "forget": [chance.choice([0, 1, 2, 3, 4, 9999])], "doubts": [chance.choice([0, 1, 3, 50, 9999])],
        "find": [word, chance.choice([0, 4, 99, 100, 9999])], "cost": [name, chance.choice([0, 1, 2, 9999])],
        "teach": [name, chance.choice([0, 0, 1, 7]), chance.randint(0, 5), chance.choice([0, 1, 2, 3, 8, 9]),
                  chance.choice(["i", "n", "?", "", "no"])],
    }[kind]]


def any_line(chance):
    """A line, or rows that are none."""
    turn = chance.random()
    if turn < 0.6:
        return set_line(Alphabet(2, SHAPES), chance.choice(["il", "u il", "lul", "i"]))
    if turn < 0.9:
        return made(2, chance.randint(1, 8), chance.randrange(99), of_ten=5)
    return chance.choice([("",), ("", ""), ("##", ""), ("#",), full(2, 61), ("ab", "cd"), (), ("read a", "back"), ("--",),
                          ("page b", "page b"), ("END", "end "), ("# ", "# ")])


class Led(unittest.TestCase):

    def lay(self, desk, works, name, lines):
        self.assertEqual(desk.answer(f"page {name}"), "..")
        rows = []
        for at, line in enumerate(lines):
            rows += (["-"] if at else []) + list(line)
        if not rows:
            lines = []
        for row in rows:
            self.assertEqual(desk.answer(row), "..")
        return desk.answer("end"), answered(works, ["page", name, [tuple(line) for line in lines]])

    def test_any_rows(self):
        kinds = {}
        for seed in range(60):
            chance = random.Random(seed)
            desk, works = pair()
            self.lay(desk, works, "a", [set_line(works.alphabet(), "il iu"), ("##.#", "#..#")])
            for _ in range(30):
                words = any_rows(chance)
                if words[0] == "page":
                    told, wanted = self.lay(desk, works, *words[1:])
                else:
                    told, wanted = desk.answer(" ".join(map(str, words))), answered(works, words)
                self.assertEqual(told, wanted, words)
                kinds.setdefault(words[0], set()).add(told if told.startswith("no ") or told == "-" else "told")
                self.check(desk, works)
        for kind in ("gone", "teach", "forget", "learn", "unlearn", "back", "read", "doubts", "find", "cost"):
            self.assertGreater(len(kinds[kind]), 1, kind)
        self.assertLessEqual({"no noword", "no noline", "-"}, kinds["page"])
        self.assertLessEqual({"no noword", "no noline", "no noplace", "no nosign", "no noshape", "told"}, kinds["teach"])
        self.assertLessEqual({"no toomany", "no noword", "-", "told"}, kinds["find"])
        self.assertLessEqual({"no noback", "told", "-"}, kinds["back"])

    def check(self, desk, works):
        for name in works.pages():
            self.assertEqual(desk.answer(f"read {name}"), works.text(name).replace("\n", " / "))
        self.assertEqual(desk.answer("doubts 3"), answered(works, ["doubts", 3]))


class Rows(unittest.TestCase):

    def told(self, desk, *rows):
        return [desk.answer(row) for row in rows]

    def test_a_small_page(self):
        desk, _ = pair()
        self.assertEqual(self.told(desk, *PAGE), [".."] * 6 + ["-"])
        self.assertEqual(self.told(desk, "read a", "cost a 0", "cost a 1"), ["il u / ii", "0", "1"])
        self.assertEqual(self.told(desk, "learn ii", "read a", "cost a 1"), ["a.1", "il u / ii", "0"])
        self.assertEqual(self.told(desk, "teach a 1 0 3 n", "forget 2", "read a"), ["-", "a.0", "il ii / ii"])
        self.assertEqual(self.told(desk, "back", "back", "back", "cost a 1"), ["a.0", "-", "a.1", "1"])
        self.assertEqual(self.told(desk, "find il 0", "find u 0", "find ? 0"),
                         ["0 a.0.0", "0 a.0.8, 0 a.1.0", "0 a.0.8, 0 a.1.0"])
        self.assertEqual(self.told(desk, "find ii 0", "find zz 9"), ["0 a.1.0", "-"])
        self.assertEqual(self.told(desk, "doubts 1", "doubts 0", "gone a", "back"), ["a.1.0 0, a.1.2 0", "-", "-", "-"])
        self.assertEqual(self.told(desk, "back", "back", "read a"), ["-", "no noback", "no noword"])

    def test_several_told(self):
        desk, works = pair()
        self.told(desk, *PAGE)
        works.lay("a", [tuple(PAGE[1:3]), tuple(PAGE[4:6])])
        self.told(desk, "page b", *PAGE[4:])
        works.lay("b", [tuple(PAGE[4:6])])
        self.assertEqual(desk.answer("learn ii"), "a.1 b.0")
        works.learn("ii")
        self.assertEqual(desk.answer("find i? 2"), answered(works, ["find", "i?", 2]))
        self.assertIn(", ", desk.answer("find i? 2"))
        self.assertEqual(desk.answer("doubts 9"), answered(works, ["doubts", 9]))
        self.assertIn(", ", desk.answer("doubts 9"))

    def test_pages(self):
        desk, _ = pair()
        self.assertEqual(self.told(desk, "page q", "end", "read q"), ["..", "-", ""])
        self.assertEqual(self.told(desk, "page q", "end"), ["..", "no noword"])
        self.assertEqual(self.told(desk, "page r", "-", "end", "read r"), ["..", "..", "no noline", "no noword"])
        self.assertEqual(self.told(desk, "page r", "", "end"), ["..", "..", "no noline"])
        self.assertEqual(self.told(desk, "page r", "#", "#", "-", "end"), [".."] * 4 + ["no noline"])
        self.assertEqual(self.told(desk, "page r", "-", "#", "#", "end"), [".."] * 4 + ["no noline"])
        self.assertEqual(self.told(desk, "page r", "page s", "back", "what", "END", "end ", " end", "end"),
                         [".."] * 7 + ["no noline"])
        self.assertEqual(self.told(desk, "page ", "end", "page R", "end"), ["..", "no noword"] * 2)
        self.assertEqual(self.told(desk, "page r", *["#", "#", "-"] * 7, "#", "#", "end"), [".."] * 24 + ["-"])
        self.assertEqual(desk.answer("read r"), " / ".join(["i"] * 8))
        self.assertEqual(self.told(desk, "page t", *["#", "#", "-"] * 8, "#", "#", "end")[-1], "no noline")
        self.assertEqual(self.told(desk, "end", "read q", "read t"), ["what", "", "no noword"])

    def test_what(self):
        desk, works = pair()
        self.told(desk, *PAGE)
        works.lay("a", [tuple(PAGE[1:3]), tuple(PAGE[4:6])])
        rows = ["", " ", "end", "what", "page", "page a b", "page  a", " page b", "gone", "gone a ", " gone a", "gone  a",
                "Gone a", "GONE a", "teach a 0 0 1", "teach a 0 0 1 x y", "teach a 0 0  x", "teach a 00 0 1 x",
                "teach a 0 01 1 x", "teach a 0 0 10000 x", "teach a 0 0 -1 x", "teach a 0 0 +1 x", "teach a 0 a 1 x",
                "teach a 0 0 1 ", "teach a 0 0 1 x ", "forget", "forget ", "forget a", "forget 00", "forget 10000", "forget 1.",
                "forget 0 0", "forget 0 ", "learn", "learn a b", "unlearn", "unlearn il ", "back ", "back 1", " back", "Back",
                "read", "read a ", "read a a", "doubts", "doubts ", "doubts x", "doubts 01", "doubts 12345", "doubts 1 1",
                "find", "find il", "find il ", "find il 00", "find  il 4", "find il 4 ", "find il 12345", "cost", "cost a",
                "cost a ", "cost a b", "cost a 00", "cost a 0 ", "lay b", "together", "pages", "search il 4", "text a", "log",
                "page\ta", "read\na", "back\n", "cost a \u0660", "find il -1", "no noword", "-", "..", "#.#"]
        forms = {"teach a 0 0 1 ": "no nosign"}
        for row in rows:
            self.assertEqual(desk.answer(row), forms.get(row, "what"), row)
            self.assertEqual(desk.answer("read a"), works.text("a").replace("\n", " / "))
        self.assertEqual(self.told(desk, "back", "back"), ["-", "no noback"])

    def test_empty_words(self):
        desk, _ = pair()
        self.told(desk, *PAGE)
        self.assertEqual(self.told(desk, "read ", "gone ", "cost  0", "find  4", "learn ", "unlearn ", "teach  0 0 1 x"),
                         ["no noword"] * 7)

    def test_each_refusal(self):
        desk, _ = pair()
        self.told(desk, *PAGE)
        told = self.told(desk, "gone b", "teach b 0 0 1 x", "teach a 2 0 1 x", "teach a 0 9 8 x", "teach a 0 0 9 x",
                         "teach a 0 0 1 xy", "teach a 0 0 1 x", "forget 3", "learn il", "learn iiiiiiiii", "unlearn x",
                         "read b", "find iiiiiiiii 4", "find i 100", "cost b 0", "cost a 2", "cost a 9999")
        self.assertEqual(told, ["no noword", "no noword", "no noline", "no noplace", "no noplace", "no nosign",
                                "no noshape", "no noshape", "no noword", "no noword", "no noword", "no noword",
                                "no noword", "no toomany", "no noword", "no noline", "no noline"])
        self.assertEqual(self.told(desk, "read a", "back", "back"), ["il u / ii", "-", "no noback"])

    def test_by_name(self):
        desk = Desk(lexicon=Lexicon(WORDS), alphabet=Alphabet(2, SHAPES))
        self.assertEqual(desk.answer(row="back"), "no noback")


if __name__ == "__main__":
    unittest.main()
