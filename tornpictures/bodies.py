"""The bodies of the chunks that must be known: what Head, Pale and Body hold, written and read."""

from tornpictures.blocks import unpacked
from tornpictures.chunks import from_two, two_bytes
from tornpictures.errors import Beyond, Broken, NoBlock, NoLines
from tornpictures.pictures import is_depth, is_palette, is_side
from tornpictures.sections import section_bytes, section_lines

WORDS = ("grey", "colour", "named")
COLOUR_DEPTH = 8
HEAD_BYTES = 6
MOST_LEVELS = 3
AHEAD_OF_BLOCK = 3


def head_body(kind, width, height, levels):
    """The body of a Head."""
    depth = COLOUR_DEPTH if kind[0] == "colour" else kind[1]
    return [WORDS.index(kind[0]), depth, width, height, levels, 0]


def head_from(body, at):
    """What a Head tells, as (word, depth, width, height, levels), or Broken with its place."""
    if len(body) != HEAD_BYTES:
        raise Broken(at)
    number, depth, width, height, levels, last = body
    if number >= len(WORDS) or levels > MOST_LEVELS or last != 0:
        raise Broken(at)
    if not is_depth(depth) or not is_side(width) or not is_side(height):
        raise Broken(at)
    word = WORDS[number]
    if word == "colour" and depth != COLOUR_DEPTH:
        raise Broken(at)
    return (word, depth, width, height, levels)


def pale_body(palette):
    """The body of a Pale."""
    return [byte for colour in palette for byte in colour]


def palette_from(body, depth, at):
    """The palette that a Pale holds, or Broken with its place."""
    # A last colour of one or two bytes is none, so that the palette is none.
    palette = tuple([tuple(body[begin:begin + 3]) for begin in range(0, len(body), 3)])
    if not is_palette(depth, palette):
        raise Broken(at)
    return palette


def lines_body(picture, levels, first, many, packing):
    """The body of a Body, its section's bytes packed by the function block or plain."""
    section = section_bytes(picture, levels=levels, first=first, many=many)
    return two_bytes(first) + [many] + packing(section)


def lines_from(shape, body, at):
    """The first line of a Body, and its lines as pixels, or Broken with its place."""
    if len(body) < AHEAD_OF_BLOCK:
        raise Broken(at)
    kind, width, height, levels = shape
    first = from_two(body, 0)
    try:
        section = unpacked(body[AHEAD_OF_BLOCK:])
        told = section_lines(kind, width, height, section, levels=levels, first=first, many=body[2])
    except (Beyond, NoBlock, NoLines):
        raise Broken(at) from None
    return (first, told)
