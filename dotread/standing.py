"""How a works stands behind some deeds: the shapes and words that are known, the pages, and what is read there."""

from dotread.errors import NoLine, NoWord
from dotread.kinds import is_between, is_text
from dotread.ways import Ways
from dotread.words import spelling_by


class Reader:
    """Reads lines by an alphabet and a lexicon that never change: each line is read once, when it is asked for."""

    def __init__(self, alphabet, lexicon):
        self.alphabet = alphabet
        self.lexicon = lexicon
        self._spelling = None
        self._first = {}

    def read(self, line):
        """Tell the first of all readings of a line, a pair (cost, reading)."""
        if self._spelling is None:
            self._spelling = spelling_by(self.alphabet, self.lexicon)
        if line not in self._first:
            self._first[line] = Ways(self.alphabet, line, self._spelling).first()
        return self._first[line]

    def seen(self, line):
        """Tell that reading without the numbers of its shapes: its cost, and (column, sign, picture) of each window."""
        cost, reading = self.read(line)
        shapes = self.alphabet.shapes()
        return cost, [(column, *shapes[number]) for column, number in reading]

    def reads_as(self, other):
        """Tell whether another one reads by the same shapes and words."""
        return self.alphabet == other.alphabet and self.lexicon == other.lexicon


class Standing:
    """A reader, and the lines of each page by its name; none of it changes."""

    def __init__(self, reader, pages):
        self.reader = reader
        self.pages = pages

    def lines(self, name):
        """Tell the lines of a page, a tuple; NoWord of anything that names none."""
        if not is_text(name) or name not in self.pages:
            raise NoWord(name)
        return self.pages[name]

    def line(self, name, at):
        """Tell the line of this number of a page; NoWord, NoLine of anything else."""
        lines = self.lines(name)
        if not is_between(at, 0, len(lines) - 1):
            raise NoLine("the page has no line of this number")
        return lines[at]

    def all_lines(self):
        """Tell the rising list of all lines as (name, number, line)."""
        return [(name, at, line) for name in sorted(self.pages) for at, line in enumerate(self.pages[name])]

    def with_page(self, name, lines):
        """Tell the standing in which this page is there, too."""
        return Standing(self.reader, {**self.pages, name: lines})

    def without_page(self, name):
        """Tell the standing in which this page is gone."""
        return Standing(self.reader, {other: self.pages[other] for other in self.pages if other != name})

    def read_by(self, alphabet, lexicon):
        """Tell the standing in which these shapes and words are known."""
        return Standing(Reader(alphabet, lexicon), self.pages)


def read_otherwise(ahead, behind):
    """Tell the rising list of (name, number) of the lines that are there in both standings, but read otherwise."""
    same = ahead.reader.reads_as(behind.reader)
    found = []
    for name, at, line in behind.all_lines():
        former = ahead.pages.get(name, ())[at:at + 1]
        if len(former) == 1 and not (same and former[0] == line):
            if ahead.reader.seen(former[0]) != behind.reader.seen(line):
                found.append((name, at))
    return found
