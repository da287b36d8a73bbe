"""A desk: a works that is led by rows of text and answers each by one."""

from dotread.errors import NoBack, NoLine, NoPlace, NoShape, NoSign, NoWord, TooMany
from dotread.figures import number_in
from dotread.kinds import is_text
from dotread.works import Works

PAGE_ROW = ".."
PAGE_END = "end"
LINE_END = "-"
NONE = "-"
OTHER_ROW = "what"


def _read_otherwise(lines):
    return " ".join([f"{name}.{at}" for name, at in lines]) or NONE


def _laid(works, name, lines):
    return _read_otherwise(works.lay(name, lines))


def _gone(works, name):
    return _read_otherwise(works.gone(name))


def _taught(works, name, at, column, wide, sign):
    return _read_otherwise(works.teach(name, at, column, wide, sign))


def _forgotten(works, number):
    return _read_otherwise(works.forget(number))


def _learnt(works, word):
    return _read_otherwise(works.learn(word))


def _unlearnt(works, word):
    return _read_otherwise(works.unlearn(word))


def _taken_back(works):
    return _read_otherwise(works.back())


def _read(works, name):
    return " / ".join(works.text(name).split("\n"))


def _doubts(works, least):
    return ", ".join([f"{name}.{at}.{window[0]} {more}" for more, name, at, window in works.doubtful(least)]) or NONE


def _found(works, pattern, within):
    places = works.search(pattern, within=within)
    return ", ".join([f"{more} {name}.{at}.{column}" for more, name, at, column in places]) or NONE


def _cost(works, name, at):
    return str(works.reading(name, at)[0])


# By the first word of a row: what stands behind it, a word or a number each.
FORMS = {
    "page": ("word",), "gone": ("word",), "teach": ("word", "number", "number", "number", "word"),
    "forget": ("number",), "learn": ("word",), "unlearn": ("word",), "back": (), "read": ("word",),
    "doubts": ("number",), "find": ("word", "number"), "cost": ("word", "number"),
}
ANSWERS = {
    "page": _laid, "gone": _gone, "teach": _taught, "forget": _forgotten, "learn": _learnt, "unlearn": _unlearnt,
    "back": _taken_back, "read": _read, "doubts": _doubts, "find": _found, "cost": _cost,
}


class Desk:
    """Answers rows, one after the other; between the row of a page and its end each one is a row of this page."""

    def __init__(self, alphabet, lexicon):
        self._works = Works(alphabet, lexicon)
        # The name of the page whose rows are told, None where there is none, and its rows so far.
        self._name = None
        self._rows = []

    def answer(self, row):
        """Tell the answer to a row."""
        if self._name is not None:
            return self._page_row(row)
        words = row.split(" ") if is_text(row) else [""]
        handed = _handed(words)
        if handed is None:
            return OTHER_ROW
        if words[0] == "page":
            self._name = words[1]
            return PAGE_ROW
        return self._answered(words[0], handed)

    def _page_row(self, row):
        if row != PAGE_END:
            self._rows.append(row)
            return PAGE_ROW
        handed = [self._name, _lines_in(self._rows)]
        self._name = None
        self._rows = []
        return self._answered("page", handed)

    def _answered(self, word, handed):
        tell = ANSWERS[word]
        try:
            return tell(self._works, *handed)
        except NoWord:
            return "no noword"
        except NoLine:
            return "no noline"
        except NoPlace:
            return "no noplace"
        except NoSign:
            return "no nosign"
        except NoShape:
            return "no noshape"
        except NoBack:
            return "no noback"
        except TooMany:
            return "no toomany"


def _handed(words):
    """Tell what stands behind a row's first word, numbers as such, or None where the row has none of the forms."""
    if words[0] not in FORMS or len(words) != 1 + len(FORMS[words[0]]):
        return None
    forms = FORMS[words[0]]
    handed = [number_in(word) if form == "number" else word for word, form in zip(words[1:], forms)]
    return None if None in handed else handed


def _lines_in(rows):
    """Tell the lines of a page whose rows are these."""
    if not rows:
        return []
    lines = [[]]
    for row in rows:
        if row == LINE_END:
            lines.append([])
        else:
            lines[-1].append(row)
    return [tuple(line) for line in lines]
