"""A works: pages that are read, deeds by which it learns and forgets, and what is told behind them."""

from dotread.deeds import TOGETHER, done, kept, want_deeds, want_log
from dotread.doubts import doubts
from dotread.errors import NoBack
from dotread.searching import places, want_pattern, want_within
from dotread.standing import Reader, Standing, read_otherwise
from dotread.words import text_of


class Works:
    """Pages read by the shapes and words that are known; each deed tells the lines that read otherwise by it."""

    def __init__(self, alphabet, lexicon):
        self._deeds = []
        # How it stood ahead of the first deed, and behind each.
        self._standings = [Standing(Reader(alphabet, lexicon), {})]

    def lay(self, name, lines):
        """Lay a page of at most 8 lines in."""
        return self._do(("lay", name, lines))

    def gone(self, name):
        """Take a page out."""
        return self._do(("gone", name))

    def teach(self, name, at, column, wide, sign):
        """Make so many columns of a line, from this one on, one more shape of the sign."""
        return self._do(("teach", name, at, column, wide, sign))

    def forget(self, number):
        """Forget the shape of this number."""
        return self._do(("forget", number))

    def learn(self, word):
        """Learn a word."""
        return self._do(("learn", word))

    def unlearn(self, word):
        """Forget a word."""
        return self._do(("unlearn", word))

    def together(self, deeds):
        """Do all of these deeds, or none, as one."""
        want_deeds(deeds)
        return self._do((TOGETHER, deeds))

    def _do(self, deed):
        self._add(deed)
        return read_otherwise(self._standings[-2], self._standings[-1])

    def _add(self, deed):
        self._standings.append(done(self._standings[-1], deed))
        self._deeds.append(kept(deed))

    def back(self):
        """Take the last deed back that stands."""
        if not self._deeds:
            raise NoBack("no deed stands")
        self._deeds.pop()
        taken = self._standings.pop()
        return read_otherwise(taken, self._standings[-1])

    def alphabet(self):
        """Tell the shapes that are known."""
        return self._standings[-1].reader.alphabet

    def lexicon(self):
        """Tell the words that are known."""
        return self._standings[-1].reader.lexicon

    def pages(self):
        """Tell the rising list of the pages' names."""
        return sorted(self._standings[-1].pages)

    def reading(self, name, at):
        """Tell the first of all readings of a line, a pair (cost, reading)."""
        standing = self._standings[-1]
        return standing.reader.read(standing.line(name, at))

    def text(self, name):
        """Tell the texts of a page's lines, joined by line ends."""
        standing = self._standings[-1]
        readings = [standing.reader.read(line)[1] for line in standing.lines(name)]
        blank = self.lexicon().blank
        return "\n".join([text_of(self.alphabet(), reading, blank=blank) for reading in readings])

    def search(self, pattern, *, within=4):
        """Tell the rising list of (more, name, at, column) of all places where a word that fits may stand."""
        want_pattern(pattern)
        want_within(within)
        alphabet, lexicon = self.alphabet(), self.lexicon()
        return sorted([(more, name, at, column) for name, at, line in self._standings[-1].all_lines()
                       for more, column, _ in places(alphabet, lexicon, line, pattern, within=within)])

    def doubtful(self, least):
        """Tell the rising list of (more, name, at, window) of all windows whose doubt is less than least."""
        alphabet, lexicon = self.alphabet(), self.lexicon()
        found = []
        for name, at, line in self._standings[-1].all_lines():
            _, reading = self.reading(name, at)
            for window, (more, _) in zip(reading, doubts(alphabet, lexicon, line)):
                if more < least:
                    found.append((more, name, at, window))
        return sorted(found)

    def log(self):
        """Tell the list of the deeds that stand."""
        return list(self._deeds)

    def twin(self):
        """Tell another works that stands as this one does; from now on each goes its own way."""
        other = Works(self.alphabet(), self.lexicon())
        other._deeds = list(self._deeds)
        other._standings = list(self._standings)
        return other


def works_of(alphabet, lexicon, log):
    """Tell a new works behind the deeds of a log, done one by one."""
    want_log(log)
    works = Works(alphabet, lexicon)
    for deed in log:
        works._add(deed)
    return works
