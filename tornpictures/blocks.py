"""Blocks: lists of bytes, plain or packed by stretches and short codes, whichever is shorter."""

from tornpictures.bits import bits_from, bits_of, bytes_from, number_of
from tornpictures.codes import codes, is_full, sign_at, signs_by_code
from tornpictures.counts import lengths
from tornpictures.errors import NoBlock, NoCode, NoSaying
from tornpictures.stretches import SHORTEST, said, unsaid
from tornpictures.wholes import is_bytes

PLAIN = 0
PACKED = 1
AGAIN = 256
END = 257
SIGN_BITS = 9
LENGTH_BITS = 6
FAR_BITS = 6
MANY_BITS = 5
MOST_BYTES = 2000


def plain(bytes_of):
    """The plain block of the bytes."""
    return [PLAIN, *bytes_of]


def sign_of(part):
    """The sign by which a part of a saying is coded."""
    return part[1] if part[0] == "byte" else AGAIN


def counted(signs):
    """How often each sign is there, as tuples (sign, count) by signs."""
    counts = {}
    for sign in signs:
        counts[sign] = counts.get(sign, 0) + 1
    return sorted([(sign, counts[sign]) for sign in counts])


def bits_behind(part):
    """What stands behind the code of a part: how far and how many, of a stretch."""
    if part[0] == "byte":
        return ""
    return bits_of(part[1] - 1, FAR_BITS) + bits_of(part[2] - SHORTEST, MANY_BITS)


def packed(bytes_of):
    """The packed block of the bytes."""
    saying = said(bytes_of)
    full = lengths(counted([sign_of(part) for part in saying] + [END]))
    code_of = codes(full)
    bits = [bits_of(len(full), SIGN_BITS)]
    bits.extend([bits_of(sign, SIGN_BITS) + bits_of(length, LENGTH_BITS) for sign, length in full])
    bits.extend([code_of[sign_of(part)] + bits_behind(part) for part in saying])
    return [PACKED] + bytes_from("".join(bits) + code_of[END])


def block(bytes_of):
    """The shorter block of the two, the plain one where they are as long."""
    told = packed(bytes_of)
    if len(told) < len(bytes_of) + 1:
        return told
    return plain(bytes_of)


def number_at(text, at, many):
    """The number in so many bits from a place on, or NoBlock."""
    if at + many > len(text):
        raise NoBlock("bits are lacking")
    return number_of(text[at:at + many])


def lengths_from(text):
    """The lengths with which the bits begin, and the place behind them, or NoBlock."""
    told = []
    place = SIGN_BITS
    for turn in range(number_at(text, 0, SIGN_BITS)):
        sign = number_at(text, place, SIGN_BITS)
        told.append((sign, number_at(text, place + SIGN_BITS, LENGTH_BITS)))
        place += SIGN_BITS + LENGTH_BITS
    if not is_full(told) or told[-1][0] > END:
        raise NoBlock("the lengths aren't full ones of signs up to 257")
    return (told, place)


def saying_from(text, full, at):
    """The saying that is coded from a place on, and the place behind its end, or NoBlock, or NoCode."""
    signs = signs_by_code(full)
    told = []
    sign, place = sign_at(text, signs, at)
    while sign != END:
        if sign == AGAIN:
            far = number_at(text, place, FAR_BITS) + 1
            many = number_at(text, place + FAR_BITS, MANY_BITS) + SHORTEST
            told.append(("again", far, many))
            place += FAR_BITS + MANY_BITS
        else:
            told.append(("byte", sign))
        sign, place = sign_at(text, signs, place)
    return (told, place)


def unpacked_bits(text):
    """The bytes that are packed in the bits, or NoBlock, or NoCode, or NoSaying."""
    full, place = lengths_from(text)
    saying, end = saying_from(text, full, place)
    if len(text) - end >= 8 or "1" in text[end:]:
        raise NoBlock("what is left isn't less than eight bits of 0")
    return unsaid(saying)


def inner(thing):
    """The bytes within a block of whatever length, or NoBlock."""
    if not is_bytes(thing) or len(thing) == 0 or thing[0] > PACKED:
        raise NoBlock("not a list of bytes that begins with 0 or 1")
    if thing[0] == PLAIN:
        return thing[1:]
    try:
        return unpacked_bits(bits_from(thing[1:]))
    except (NoCode, NoSaying):
        raise NoBlock("a code, or a stretch, that is none") from None


def unpacked(thing):
    """The bytes within whatever thing is a block, or NoBlock."""
    told = inner(thing)
    if len(told) > MOST_BYTES:
        raise NoBlock("more than 2,000 bytes")
    return told
