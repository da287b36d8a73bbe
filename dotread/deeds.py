"""Deeds: tuples of a word and what is handed in, and how a works stands behind each."""

from dotread.alphabets import MOST_WIDE, is_sign
from dotread.dots import cut_out
from dotread.errors import NoDeed, NoLine, NoPlace, NoSign, NoWord
from dotread.kinds import is_between, is_list, is_text, is_tuple
from dotread.reading import want_line

TOGETHER = "together"
MOST_NAME = 6
MOST_LINES = 8


def _laid(standing, name, lines):
    if not _is_name(name) or name in standing.pages:
        raise NoWord(name)
    if not is_list(lines) or len(lines) > MOST_LINES:
        raise NoLine("a page is a list of at most 8 lines")
    for line in lines:
        want_line(standing.reader.alphabet, line)
    return standing.with_page(name, tuple(lines))


def _is_name(thing):
    return is_text(thing) and 1 <= len(thing) <= MOST_NAME and all(["a" <= sign <= "z" for sign in thing])


def _gone(standing, name):
    standing.lines(name)
    return standing.without_page(name)


def _taught(standing, name, at, column, wide, sign):
    line = standing.line(name, at)
    if not is_between(wide, 1, MOST_WIDE):
        raise NoPlace("a shape has 1 to 8 columns")
    picture = cut_out(line, 0, column, len(line), wide)
    if not is_sign(sign):
        raise NoSign(sign)
    return standing.read_by(standing.reader.alphabet.with_shape(sign, picture), standing.reader.lexicon)


def _forgotten(standing, number):
    return standing.read_by(standing.reader.alphabet.without(number), standing.reader.lexicon)


def _learnt(standing, word):
    return standing.read_by(standing.reader.alphabet, standing.reader.lexicon.with_word(word))


def _unlearnt(standing, word):
    return standing.read_by(standing.reader.alphabet, standing.reader.lexicon.without_word(word))


ACTS = {"lay": _laid, "gone": _gone, "teach": _taught, "forget": _forgotten, "learn": _learnt, "unlearn": _unlearnt}
# How long the tuple of each such deed is.
LENGTHS = {"lay": 3, "gone": 2, "teach": 6, "forget": 2, "learn": 2, "unlearn": 2}


def want_deeds(thing):
    """Refuse, of any kind, what is no list of deeds, or has one that is none by its word and length."""
    _want_all([_is_deed(deed) for deed in thing] if is_list(thing) else [False])


def want_log(thing):
    """Refuse, of any kind, what is no log: a list of deeds, some of which may be several together."""
    _want_all([_is_deed(deed) or _is_together(deed) for deed in thing] if is_list(thing) else [False])


def _want_all(right):
    if not all(right):
        raise NoDeed(right.index(False))


def _is_deed(thing):
    return _has_word(thing) and thing[0] in LENGTHS and len(thing) == LENGTHS[thing[0]]


def _is_together(thing):
    if not _has_word(thing) or thing[0] != TOGETHER or not is_tuple(thing, 2):
        return False
    return is_list(thing[1]) and all([_is_deed(deed) for deed in thing[1]])


def _has_word(thing):
    return type(thing) == tuple and len(thing) > 0 and is_text(thing[0])


def done(standing, deed):
    """Tell how a works stands behind a deed; what the deed refuses is raised, and nothing is changed."""
    if deed[0] == TOGETHER:
        for part in deed[1]:
            standing = done(standing, part)
        return standing
    act = ACTS[deed[0]]
    handed = deed[1:]
    return act(standing, *handed)


def kept(deed):
    """Tell a deed as the log tells it: its lists as tuples, which don't change later."""
    if deed[0] == TOGETHER:
        return TOGETHER, tuple([kept(part) for part in deed[1]])
    return tuple([tuple(part) if is_list(part) else part for part in deed])
