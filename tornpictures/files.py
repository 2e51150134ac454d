"""Files: pictures written as a mark and chunks, and read as a whole."""

from tornpictures.blocks import block, plain
from tornpictures.bodies import head_body, lines_body, pale_body
from tornpictures.chunks import AROUND_BODY, chunk, chunk_at
from tornpictures.lines import lines
from tornpictures.reader import MARK, read_whole


def file_of(parts):
    """The bytes of a file, from its chunks as tuples (name, body)."""
    told = list(MARK)
    for name, body in parts:
        told.extend(chunk(name, body))
    return told


def length_of_file(parts):
    """How many bytes the file of these chunks has."""
    return len(MARK) + sum([AROUND_BODY + len(body) for name, body in parts])


def parts_in(file):
    """The chunks of a file that is read, as tuples (name, body)."""
    told = []
    place = len(MARK)
    while place < len(file):
        name, body, place = chunk_at(file, place)
        told.append((name, body))
    return told


def parts_ahead(picture, levels, notes):
    """The chunks ahead of the Bodies."""
    kind, width, height, rows = picture
    told = [("Head", head_body(kind, width, height, levels))]
    if kind[0] == "named":
        told.append(("Pale", pale_body(kind[2])))
    return told + list(notes)


def parts_by(picture, levels, each, notes, packing):
    """All chunks of a file, its blocks packed by the function block or plain."""
    total = len(lines(picture[1], picture[2], levels))
    told = parts_ahead(picture, levels, notes)
    for first in range(0, total, each):
        many = min(each, total - first)
        told.append(("Body", lines_body(picture, levels, first, many, packing)))
    return told + [("Last", [])]


def written(picture, *, levels=0, each=8, notes=()):
    """The bytes of the picture's file, by sections of so many lines each."""
    return file_of(parts_by(picture, levels, each, notes, block))


def bound(picture, *, levels=0, each=8, notes=()):
    """How long the file is at most: as long as with plain blocks alone."""
    return length_of_file(parts_by(picture, levels, each, notes, plain))


def read(thing):
    """The picture of whatever thing is a file, or Broken."""
    return read_whole(thing, strict=True).picture()


def levels_of(thing):
    """The levels of whatever thing is a file, or Broken."""
    return read_whole(thing, strict=True).shape()[3]
