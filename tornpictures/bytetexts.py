"""Bytes, written by two signs each and read back."""

from tornpictures.errors import NoText

SIGNS = "0123456789abcdef"


def show_bytes(bytes_of):
    """The text of the bytes."""
    return "".join([SIGNS[byte >> 4] + SIGNS[byte & 15] for byte in bytes_of])


def read_bytes(text):
    """The bytes that whatever text is written from, or NoText."""
    if not isinstance(text, str) or len(text) % 2 != 0 or not all([sign in SIGNS for sign in text]):
        raise NoText(0)
    values = [SIGNS.index(sign) for sign in text]
    return [(values[at] << 4) + values[at + 1] for at in range(0, len(values), 2)]
