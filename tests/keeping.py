"""What a works is compared with: pages, shapes and words kept plainly, and every line read anew each time."""

from dotread.alphabets import Alphabet
from dotread.dots import is_picture
from dotread.errors import NoBack, NoDeed, NoLine, NoPlace, NoShape, NoSign, NoWord
from dotread.words import Lexicon, read_by, text_of

LENGTHS = {"lay": 3, "gone": 2, "teach": 6, "forget": 2, "learn": 2, "unlearn": 2}


def is_whole(thing, least, most):
    """Whether a thing is a whole number from least to most."""
    return type(thing) is int and least <= thing <= most


def is_sign(thing):
    """Whether a thing is a sign."""
    return type(thing) is str and len(thing) == 1 and 33 <= ord(thing) <= 126


def is_word(thing):
    """Whether a thing is a word."""
    return type(thing) is str and 1 <= len(thing) <= 8 and all(map(is_sign, thing))


def is_name(thing):
    """Whether a thing is a page's name."""
    return type(thing) is str and 1 <= len(thing) <= 6 and all("a" <= sign <= "z" for sign in thing)


def is_deed(thing):
    """Whether a thing is one of the six deeds by word and length."""
    return type(thing) is tuple and len(thing) > 0 and type(thing[0]) is str and LENGTHS.get(thing[0]) == len(thing)


def is_logged(thing):
    """Whether a thing is a deed as a log has it, by word and length."""
    if is_deed(thing):
        return True
    if type(thing) is not tuple or len(thing) != 2 or type(thing[0]) is not str or thing[0] != "together":
        return False
    return type(thing[1]) in (list, tuple) and all(map(is_deed, thing[1]))


def frozen(thing):
    """A deed with tuples for lists."""
    return tuple(map(frozen, thing)) if type(thing) in (list, tuple) else thing


class Keeping:
    """Shapes, words and pages; deeds are done on copies, and refused as the document says."""

    def __init__(self, high, shapes, words, strange, blank):
        self.high, self.strange, self.blank = high, strange, blank
        self.shapes, self.words, self.pages = list(shapes), sorted(words), {}
        self.deeds, self.former = [], []

    def alphabet(self):
        return Alphabet(self.high, self.shapes)

    def lexicon(self):
        return Lexicon(self.words, strange=self.strange, blank=self.blank)

    def _held(self):
        return list(self.shapes), list(self.words), dict(self.pages)

    def _hold(self, held):
        self.shapes, self.words, self.pages = held

    def seen(self):
        """By the (name, number) of each line: its cost, and its first reading as signs, pictures and columns."""
        alphabet, lexicon = self.alphabet(), self.lexicon()
        found = {}
        for name, lines in self.pages.items():
            for at, line in enumerate(lines):
                cost, reading = read_by(alphabet, lexicon, line)
                found[name, at] = cost, [(column, self.shapes[number]) for column, number in reading]
        return found

    def reading(self, name, at):
        return read_by(self.alphabet(), self.lexicon(), self.pages[name][at])

    def text(self, name):
        return "\n".join(text_of(self.alphabet(), self.reading(name, at)[1], blank=self.blank)
                         for at in range(len(self.pages[name])))

    def told_by(self, act):
        """Do something and tell the lines that read otherwise by it, all or none."""
        held, ahead = self._held(), self.seen()
        try:
            act()
        except ValueError:
            self._hold(held)
            raise
        behind = self.seen()
        return sorted(line for line in ahead if line in behind and ahead[line] != behind[line])

    def do(self, deed):
        held = self._held()
        told = self.told_by(lambda: self._act(deed))
        self.former.append(held)
        self.deeds.append(frozen(deed))
        return told

    def together(self, deeds):
        if type(deeds) not in (list, tuple):
            raise NoDeed(0)
        for at, deed in enumerate(deeds):
            if not is_deed(deed):
                raise NoDeed(at)
        return self.do(("together", deeds))

    def back(self):
        if not self.deeds:
            raise NoBack("none")
        self.deeds.pop()
        former = self.former.pop()
        return self.told_by(lambda: self._hold(former))

    def _act(self, deed):
        if deed[0] == "together":
            for part in deed[1]:
                self._act(part)
        else:
            getattr(self, "_" + deed[0])(*deed[1:])

    def _lay(self, name, lines):
        if not is_name(name) or name in self.pages:
            raise NoWord(name)
        if type(lines) not in (list, tuple) or len(lines) > 8:
            raise NoLine("no lines")
        for line in lines:
            if not is_picture(line) or len(line) != self.high or len(line[0]) > 60:
                raise NoLine("no line")
        self.pages[name] = tuple(lines)

    def _gone(self, name):
        if type(name) is not str or name not in self.pages:
            raise NoWord(name)
        del self.pages[name]

    def _teach(self, name, at, column, wide, sign):
        if type(name) is not str or name not in self.pages:
            raise NoWord(name)
        if not is_whole(at, 0, len(self.pages[name]) - 1):
            raise NoLine("no line")
        line = self.pages[name][at]
        if not is_whole(wide, 1, 8) or not is_whole(column, 0, len(line[0]) - wide):
            raise NoPlace("not within")
        if not is_sign(sign):
            raise NoSign(sign)
        picture = tuple(row[column:column + wide] for row in line)
        if len(self.shapes) == 16 or "#" not in "".join(picture) or picture in [shape[1] for shape in self.shapes]:
            raise NoShape(len(self.shapes))
        self.shapes.append((sign, picture))

    def _forget(self, number):
        if not is_whole(number, 0, len(self.shapes) - 1):
            raise NoShape(number)
        if len(self.shapes) == 1:
            raise NoShape(0)
        del self.shapes[number]

    def _learn(self, word):
        if len(self.words) == 16:
            raise NoWord(None)
        if not is_word(word) or word in self.words:
            raise NoWord(word)
        self.words = sorted([*self.words, word])

    def _unlearn(self, word):
        if type(word) is not str or word not in self.words:
            raise NoWord(word)
        self.words.remove(word)
