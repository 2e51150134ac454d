"""Rows of pixels, written as bytes and read back."""

from tornpictures.errors import NoRow
from tornpictures.pictures import numbers_of
from tornpictures.wholes import is_bytes


def length_of(kind, many):
    """How many bytes so many pixels of the kind are written with."""
    if kind[0] == "colour":
        return 3 * many
    return (kind[1] * many + 7) // 8


def one_byte(depth, numbers):
    """The numbers from the greatest bit on; what is left of the byte is 0."""
    told = 0
    for number in numbers:
        told = (told << depth) + number
    return told << (8 - depth * len(numbers))


def numbers_in(depth, bytes_of):
    """All numbers that the bytes have room for, those in the rest of the last byte too."""
    shifts = list(range(8 - depth, -1, -depth))
    greatest = (1 << depth) - 1
    return [(byte >> shift) & greatest for byte in bytes_of for shift in shifts]


def row_bytes(kind, row):
    """The row of pixels, written as bytes."""
    if kind[0] == "colour":
        return [byte for pixel in row for byte in pixel]
    depth = kind[1]
    each = 8 // depth
    return [one_byte(depth, row[at:at + each]) for at in range(0, len(row), each)]


def row_of(kind, many, bytes_of):
    """The row of so many pixels that the bytes are written from, or NoRow."""
    if not is_bytes(bytes_of) or len(bytes_of) != length_of(kind, many):
        raise NoRow("not as many bytes as the row is written with")
    if kind[0] == "colour":
        return tuple([tuple(bytes_of[at:at + 3]) for at in range(0, 3 * many, 3)])
    numbers = numbers_in(kind[1], bytes_of)
    if any([number != 0 for number in numbers[many:]]):
        raise NoRow("a bit left in the last byte isn't 0")
    row = tuple(numbers[:many])
    if any([number >= numbers_of(kind) for number in row]):
        raise NoRow("a number that the palette doesn't have")
    return row
