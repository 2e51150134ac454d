"""Chunks: bodies of bytes with their lengths, names and checks."""

from tornpictures.errors import Broken

GREAT_LETTERS = "ABCDEFGHIJKLMNOPQRSTUVWXYZ"
SMALL_LETTERS = "abcdefghijklmnopqrstuvwxyz"
LONGEST_BODY = 3000
AROUND_BODY = 10
MODULUS = 997


def two_bytes(number):
    """A number in two bytes, the greater part first."""
    return [number >> 8, number & 255]


def from_two(bytes_of, at):
    """The number in the two bytes from a place on."""
    return (bytes_of[at] << 8) + bytes_of[at + 1]


def check(bytes_of):
    """The four bytes of the check."""
    a = 1
    b = 0
    for byte in bytes_of:
        a = (a + byte) % MODULUS
        b = (b + a) % MODULUS
    return two_bytes(b) + two_bytes(a)


def is_chunk_name(thing):
    """Whether whatever thing is a text of four letters."""
    if not isinstance(thing, str) or len(thing) != 4:
        return False
    return all([sign in GREAT_LETTERS or sign in SMALL_LETTERS for sign in thing])


def is_small(name):
    """Whether a chunk of this name may be passed over."""
    return name[0] in SMALL_LETTERS


def letter_of(byte):
    """The letter that a byte stands for, no sign where there is none."""
    for letters in (GREAT_LETTERS, SMALL_LETTERS):
        at = byte - ord(letters[0])
        if 0 <= at < len(letters):
            return letters[at]
    return ""


def name_from(bytes_of):
    """The name in four bytes; shorter, so that it is none, where one of them isn't a letter's."""
    return "".join([letter_of(byte) for byte in bytes_of])


def chunk(name, body):
    """The bytes of a chunk."""
    checked = [ord(sign) for sign in name] + body
    return two_bytes(len(body)) + checked + check(checked)


def end_at(bytes_of, at):
    """The place behind the chunk from a place on, None where it isn't whole, or Broken for a length above 3,000."""
    if at + 2 > len(bytes_of):
        return None
    length = from_two(bytes_of, at)
    if length > LONGEST_BODY:
        raise Broken(at)
    end = at + AROUND_BODY + length
    return end if end <= len(bytes_of) else None


def parts_of(bytes_of, at, end):
    """The name and the body of a whole chunk, and whether its check is right."""
    checked = bytes_of[at + 2:end - 4]
    return (name_from(checked[:4]), checked[4:], check(checked) == bytes_of[end - 4:end])


def chunk_at(bytes_of, at):
    """The name and the body of the chunk from a place on, and the place behind it, or Broken."""
    end = end_at(bytes_of, at)
    if end is None:
        raise Broken(at)
    name, body, right = parts_of(bytes_of, at, end)
    if not right or not is_chunk_name(name):
        raise Broken(at)
    return (name, body, end)
