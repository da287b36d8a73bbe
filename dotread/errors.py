"""What the program refuses: one class for each kind of refusal."""


class DotError(ValueError):
    """Any refusal of the program."""


class NoPicture(DotError):
    """What is handed in is no picture."""


class NoPlace(DotError):
    """A place, a part or a move that the picture does not have."""


class NoShape(DotError):
    """There is no shape at this number, or what stands there is none."""

    def __init__(self, at):
        self.at = at


class NoSign(DotError):
    """This is no sign, or no shape is of it."""

    def __init__(self, sign):
        self.sign = sign


class NoWord(DotError):
    """This is no word, or none that can stand there."""

    def __init__(self, word):
        self.word = word


class NoReading(DotError):
    """What is handed in is no reading."""


class NoTable(DotError):
    """What is handed in is no table."""


class NoLine(DotError):
    """What is handed in is no line, or none comes of it."""


class NoDeed(DotError):
    """What stands at this number is no deed."""

    def __init__(self, at):
        self.at = at


class NoBack(DotError):
    """No deed is left to be taken back."""


class TooMany(DotError):
    """A number is not within its bounds, of which this is the greater one."""

    def __init__(self, most):
        self.most = most


class NoText(DotError):
    """No such text begins with the rows up to this one."""

    def __init__(self, at):
        self.at = at
