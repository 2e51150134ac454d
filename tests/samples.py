"""What several tests need: kinds, pictures, things of whatever kind, and checks of what is told."""

import copy
import random
import unittest

PLAIN = (tuple, list, dict, str, int, bool, type(None))


def palette(many):
    """A palette of so many colours, the first two alike."""
    return tuple((at * 7 % 256, 255 - at, at) if at > 1 else (9, 0, 255) for at in range(many))


def all_kinds():
    """Every word and depth; palettes of one colour, of some, and of as many as can be."""
    kinds = [("grey", 1), ("grey", 2), ("grey", 4), ("grey", 8), ("colour",)]
    for depth in (1, 2, 4, 8):
        full = 2 ** depth
        for many in sorted({1, 2, full // 2 + 1, full}):
            kinds.append(("named", depth, palette(many)))
    return kinds


def few_kinds():
    return [("grey", 1), ("grey", 8), ("colour",), ("named", 2, palette(3)), ("named", 4, palette(16))]


def greatest(kind):
    """The greatest pixel of a kind."""
    if kind[0] == "colour":
        return (255, 255, 255)
    return len(kind[2]) - 1 if kind[0] == "named" else 2 ** kind[1] - 1


def least(kind):
    return (0, 0, 0) if kind[0] == "colour" else 0


def any_pixel(kind, chance):
    if kind[0] == "colour":
        return tuple(chance.randrange(256) for part in range(3))
    return chance.randrange(greatest(kind) + 1)


def any_row(kind, many, chance):
    return tuple(any_pixel(kind, chance) for at in range(many))


def any_bytes(many, chance):
    return [chance.randrange(256) for at in range(many)]


def byte_by_byte(bytes_of):
    """A saying of the bytes without a stretch."""
    return [("byte", byte) for byte in bytes_of]


def any_picture(kind, width, height, seed=0):
    chance = random.Random(f"{kind} {width} {height} {seed}")
    return (kind, width, height, tuple(any_row(kind, width, chance) for row in range(height)))


def numbered_picture(width, height):
    """A picture of which each pixel is another one, and tells its column and row."""
    rows = tuple(tuple((x, y, 7) for x in range(width)) for y in range(height))
    return (("colour",), width, height, rows)


def deep(thing, many, wrap):
    for level in range(many):
        thing = wrap(thing)
    return thing


def whatever():
    """Things of whatever kind that are no kind, no picture, no row, no filter with a row."""
    return [
        None, True, False, 0, 1, -1, 3, 255, 256, 10 ** 59, -10 ** 59, "", "grey", "colour", "named", "\n", "~ ",
        "grey 8 1 1", (), [], {}, (None,), [None], (True,), (0,), (1, 2), [1, 2], ("",), ("", ""), ((),), ([],), ({},),
        [[]], {"grey": 8}, {0: "grey", 1: 8}, {(): ()}, {"kind": ("grey", 8)}, (("grey",), 8), (("grey", 8),),
        (None, None), (None, None, None), (None, None, None, None), (0, 0, 0, 0), ("a", "b", "c", "d"),
        ([], [], [], []), ({}, {}, {}, {}), ((), (), (), ()), ((), (), (), (), ()),
        deep((), 40, lambda inner: (inner,)), deep([], 40, lambda inner: [inner]), deep({}, 40, lambda inner: {0: inner}),
        tuple(range(20000)), list(range(20000)), [0] * 20000, "grey" * 5000,
    ]


def spoil(thing):
    """Changes every list and dict within a thing."""
    if isinstance(thing, (tuple, list)):
        for part in thing:
            spoil(part)
    if isinstance(thing, dict):
        for part in thing.values():
            spoil(part)
        thing["spoilt"] = 0
    if isinstance(thing, list):
        thing.append("spoilt")
        thing.reverse()


def exactly(thing):
    """A text that is another one for things that are equal but of other kinds, as 1 and True are."""
    if isinstance(thing, dict):
        parts = [exactly(key) + ":" + exactly(thing[key]) for key in thing]
    elif isinstance(thing, (tuple, list)):
        parts = [exactly(part) for part in thing]
    else:
        parts = [repr(thing)]
    return type(thing).__name__ + "(" + ",".join(parts) + ")"


class Case(unittest.TestCase):
    """A test case that looks at the kinds of what is told, too."""

    def check_plain(self, thing):
        self.assertIn(type(thing), PLAIN)
        if isinstance(thing, (tuple, list)):
            for part in thing:
                self.check_plain(part)

    def same(self, told, wanted, message=None):
        self.check_plain(told)
        self.assertEqual(exactly(told), exactly(wanted), message)

    def check_own(self, deed, *given, **named):
        """That deed changes nothing that it is handed, tells what is the asker's own, and tells it again."""
        handed, by_name = copy.deepcopy(given), copy.deepcopy(named)
        first = deed(*handed, **by_name)
        self.assertEqual(exactly(handed), exactly(given))
        self.assertEqual(exactly(by_name), exactly(named))
        kept = copy.deepcopy(first)
        self.same(first, kept)
        spoil(first)
        self.assertEqual(exactly(handed), exactly(given))
        self.same(deed(*handed, **by_name), kept)
        second = deed(*handed, **by_name)
        spoil(handed)
        spoil(by_name)
        self.same(second, kept)
        self.same(deed(*copy.deepcopy(given), **copy.deepcopy(named)), kept)
        return kept
