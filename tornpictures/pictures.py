"""Kinds of pixels, and pictures of them."""

from tornpictures.wholes import is_byte, is_whole

DEPTHS = (1, 2, 4, 8)
LONGEST_SIDE = 24


def is_depth(thing):
    return is_whole(thing) and thing in DEPTHS


def is_colour(thing):
    return isinstance(thing, tuple) and len(thing) == 3 and all([is_byte(part) for part in thing])


def is_palette(depth, thing):
    if not isinstance(thing, tuple) or not 1 <= len(thing) <= 1 << depth:
        return False
    return all([is_colour(part) for part in thing])


def is_kind(thing):
    """Whether whatever thing is a kind."""
    if not isinstance(thing, tuple) or len(thing) == 0:
        return False
    if thing[0] == "colour":
        return len(thing) == 1
    if thing[0] == "grey":
        return len(thing) == 2 and is_depth(thing[1])
    if thing[0] == "named":
        return len(thing) == 3 and is_depth(thing[1]) and is_palette(thing[1], thing[2])
    return False


def numbers_of(kind):
    """How many numbers there are for a pixel of a kind other than colour."""
    if kind[0] == "named":
        return len(kind[2])
    return 1 << kind[1]


def is_pixel(kind, thing):
    if kind[0] == "colour":
        return is_colour(thing)
    return is_whole(thing) and 0 <= thing < numbers_of(kind)


def is_row(kind, width, thing):
    if not isinstance(thing, tuple) or len(thing) != width:
        return False
    return all([is_pixel(kind, pixel) for pixel in thing])


def is_side(thing):
    return is_whole(thing) and 1 <= thing <= LONGEST_SIDE


def is_picture(thing):
    """Whether whatever thing is a picture."""
    if not isinstance(thing, tuple) or len(thing) != 4:
        return False
    kind, width, height, rows = thing
    if not is_kind(kind) or not is_side(width) or not is_side(height):
        return False
    if not isinstance(rows, tuple) or len(rows) != height:
        return False
    return all([is_row(kind, width, row) for row in rows])


def step_of(kind):
    """How many bytes ahead of a byte the one left of it is."""
    if kind[0] == "colour":
        return 3
    return 1
