"""Sections: lines one behind the other, written as filtered bytes and read by themselves."""

from tornpictures.costs import FILTERS, chosen
from tornpictures.errors import Beyond, NoLines, NoRow
from tornpictures.filters import undone
from tornpictures.lines import line_rows, lines
from tornpictures.pictures import step_of
from tornpictures.rowbytes import length_of, row_bytes, row_of
from tornpictures.wholes import is_bytes, is_whole


def section_of(width, height, levels, first, many):
    """The lines of the section as tuples (pass, row, length), or Beyond."""
    told = lines(width, height, levels)
    if not is_whole(first) or not 0 <= first < len(told):
        raise Beyond(0)
    if many is None:
        return told[first:]
    if not is_whole(many) or not 1 <= many <= len(told) - first:
        raise Beyond(1)
    return told[first:first + many]


def above_of(ahead, row, size):
    """The row above a line: 0s where its pass, or the section, begins with it (nothing is ahead of it then)."""
    if row == 0 or len(ahead) == 0:
        return [0] * size
    return ahead


def section_bytes(picture, *, levels=0, first=0, many=None):
    """The bytes of some lines, each by its filter's number and its filtered row; Beyond for lines that aren't there."""
    kind, width, height, rows = picture
    section = section_of(width, height, levels, first, many)
    told = []
    ahead = []
    for (number, row, length), pixels in zip(section, line_rows(picture, levels)[first:]):
        line = row_bytes(kind, pixels)
        choice, led = chosen(line, above_of(ahead, row, len(line)), step=step_of(kind))
        told.append(choice)
        told.extend(led)
        ahead = line
    return told


def section_lines(kind, width, height, bytes_of, *, levels=0, first=0, many=None):
    """The lines that the bytes were written from, by whatever filters, or Beyond, or NoLines."""
    section = section_of(width, height, levels, first, many)
    if not is_bytes(bytes_of):
        raise NoLines(0)
    told = []
    ahead = []
    place = 0
    for at, (number, row, length) in enumerate(section):
        size = length_of(kind, length)
        end = place + 1 + size
        if end > len(bytes_of) or bytes_of[place] >= FILTERS:
            raise NoLines(at)
        ahead = undone(bytes_of[place], bytes_of[place + 1:end], above_of(ahead, row, size), step=step_of(kind))
        try:
            told.append(row_of(kind, length, ahead))
        except NoRow:
            raise NoLines(at) from None
        place = end
    if place < len(bytes_of):
        raise NoLines(len(section))
    return told
