"""Searches: where a word may stand in a line, in spite of doubts, and the first reading that has a text."""

from dotread.alphabets import is_sign
from dotread.errors import NoWord, TooMany
from dotread.kinds import is_between, is_text
from dotread.leads import Leads, joined
from dotread.reading import want_line
from dotread.ways import FAR, NO_WAY, set_ahead
from dotread.words import is_word, ways_by

MOST_WITHIN = 99
ANY_SIGN = "?"


def places(alphabet, lexicon, line, pattern, *, within=4):
    """Tell the list of (more, column, reading): where some reading that costs so much more has a word that fits."""
    want_line(alphabet, line)
    want_pattern(pattern)
    want_within(within)
    ways = ways_by(alphabet, lexicon, line)
    least, _ = ways.first()
    leads = Leads(ways)
    found = []
    for column, way in enumerate(_fitting_words(alphabet, lexicon, ways, pattern)):
        # Ahead of a whole word the text stands between words: in the state 0.
        cost, reading = ways.told(joined(leads.ahead[column][0], way))
        if cost - least <= within:
            found.append((cost - least, column, reading))
    return sorted(found)


def want_pattern(thing):
    """Refuse a thing, of any kind, that is no pattern."""
    if not is_word(thing):
        raise NoWord(thing)


def want_within(thing):
    """Refuse a thing, of any kind, that doesn't say how much more a reading may cost."""
    if not is_between(thing, 0, MOST_WITHIN):
        raise TooMany(MOST_WITHIN)


def _fitting_words(alphabet, lexicon, ways, pattern):
    """Tell by the column the first of all ways that begin there with a window of a whole word that fits."""
    between = [rest[0] for rest in ways.rest]
    # Behind the last word of a line there may be fewer white columns than a blank.
    over = _behind_blank(between, lexicon.blank, (0, ()))
    # Known words are weighed here as strange, too: for each there is the same way by itself that costs no more.
    kinds = [(_fitting_shapes(alphabet, pattern), lexicon.strange)]
    for word in lexicon.words():
        if _fits(pattern, word):
            kinds.append((_shapes_of(alphabet, word), 0))
    begun = [_words_begun(ways, shapes, lexicon.blank, over) for shapes, _ in kinds]
    prices = [price for _, price in kinds]
    return [min([(cost + price, windows) for (cost, windows), price in zip(here, prices)]) for here in zip(*begun)]


def _fits(pattern, word):
    return len(word) == len(pattern) and all([wanted in (ANY_SIGN, sign) for wanted, sign in zip(pattern, word)])


def _fitting_shapes(alphabet, pattern):
    every = list(range(len(alphabet)))
    return [every if wanted == ANY_SIGN else numbers for wanted, numbers in zip(pattern, _shapes_of(alphabet, pattern))]


def _shapes_of(alphabet, word):
    """Tell for each sign of a word the list of the numbers of its shapes."""
    shapes = alphabet.shapes()
    return [[number for number, shape in enumerate(shapes) if shape[0] == sign] for sign in word]


def _words_begun(ways, shapes, blank, over):
    """Tell by the column the first of all ways that begin there with a word's first window.

    A word has a window of one of the shapes told for each of its signs, and fewer than blank white columns ahead of the
    next one; over tells by the column what may follow where it is over.
    """
    behind = over
    begun = []
    for numbers in reversed(shapes):
        begun = [_first_of(windows, numbers, behind) for windows in ways.windows] + [NO_WAY]
        behind = [min(begun[column:column + blank]) for column in range(len(begun))]
    return begun


def _first_of(windows, numbers, behind):
    set_here = [set_ahead(window, more, behind[window[0] + wide])
                for window, wide, more in windows if window[1] in numbers]
    return min([NO_WAY] + set_here)


def _behind_blank(begun, blank, at_end):
    """Tell by the column what may follow there behind a blank; at_end is what may where no blank is left."""
    return begun[blank:] + [at_end] * blank


def best_as(alphabet, lexicon, line, text):
    """Tell the first of all readings with this text, a pair (cost, reading), or None."""
    want_line(alphabet, line)
    words = _words_in(text)
    ways = ways_by(alphabet, lexicon, line)
    # Each sign has a column at least, so no reading has a text that is longer.
    if sum([len(word) for word in words]) > len(ways.windows):
        return None
    over = [(0, ()) for _ in range(len(ways.windows) + 1)]
    begun = over
    for word in reversed(words):
        begun = _words_begun(ways, _shapes_of(alphabet, word), lexicon.blank, over)
        begun = [min(begun[column:]) for column in range(len(begun))]
        over = _behind_blank(begun, lexicon.blank, NO_WAY)
    cost, windows = begun[0]
    if cost >= FAR // 2:
        return None
    strange = len([word for word in words if not lexicon.has(word)]) * lexicon.strange
    return ways.told((cost + strange, windows))


def _words_in(text):
    if not is_text(text):
        raise NoWord(text)
    words = [] if text == "" else text.split(" ")
    if "" in words or not all([is_sign(sign) for word in words for sign in word]):
        raise NoWord(text)
    return words
