"""What several tests hand in: things of other kinds, pictures made by a fixed seed, and how a refusal is wanted."""

import random


class Hostile:
    """A thing that bears nothing but being handed on."""

    __hash__ = None

    def _no(self, *rest):
        raise RuntimeError("this thing was looked into")

    __eq__ = __ne__ = __lt__ = __le__ = __gt__ = __ge__ = _no
    __len__ = __iter__ = __getitem__ = __contains__ = __bool__ = _no
    __int__ = __index__ = __str__ = __repr__ = __add__ = __radd__ = _no


class AlwaysEqual:
    """A thing that says to be equal to all others, and of every length."""

    __hash__ = None

    def __eq__(self, other):
        return True

    def __len__(self):
        return 1


def others():
    """Things that are none of a number, a picture, a sign, a place, steps, an alphabet's shapes or a shape."""
    endless = []
    endless.append(endless)
    return [
        None, True, False, 1.0, 0.5, float("nan"), float("inf"), 1j, "", "ab", "\n", "\u00e9", b"", b"#", bytearray(b"#"),
        {}, {"#": 1}, {0: "#"}, set(), {"#"}, frozenset(["#"]), object(), Hostile(), AlwaysEqual(), Hostile, int,
        range(1), iter(["#"]), (row for row in ["#"]), len, lambda: None, ..., NotImplemented, endless, memoryview(b"#"),
        [None], (None,), [Hostile()], (Hostile(),), (Hostile(), Hostile()), [[]], ((),), [()], ([],), {"a": "#"}.items(),
        ("",), ("", ""), ("x",), (b"#",), (35,), (["#"],), (("#",),),
    ]


def numbers():
    """Numbers beyond all bounds."""
    return [-1, -2, 1000, 10 ** 39, -10 ** 39]


def made(rows, columns, seed, of_ten=3):
    """A picture in which about so many of ten places are dots, the same for each seed."""
    chance = random.Random(seed)
    return tuple("".join("#" if chance.randrange(10) < of_ten else "." for _ in range(columns)) for _ in range(rows))


def full(rows, columns, sign="#"):
    """A picture of one sign alone."""
    return (sign * columns,) * rows


def refusal(test, kind, call, *rest, **more):
    """Want just this class as the refusal, and tell the error."""
    try:
        told = call(*rest, **more)
    except Exception as error:
        test.assertIs(error.__class__, kind)
        return error
    test.fail(f"{kind.__name__} was due, {told.__class__.__name__} was told")
