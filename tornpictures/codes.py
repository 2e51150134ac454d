"""Short codes: texts of 0 and 1 for signs, made of full lengths, none of which begins another one."""

from tornpictures.bits import bits_of
from tornpictures.errors import NoCode
from tornpictures.wholes import is_whole

GREATEST_SIGN = 511
MOST_SIGNS = 300
LONGEST_CODE = 60


def has_length(thing):
    """Whether whatever thing is a tuple (sign, length)."""
    if not isinstance(thing, tuple) or len(thing) != 2 or not is_whole(thing[0]) or not is_whole(thing[1]):
        return False
    return 0 <= thing[0] <= GREATEST_SIGN and 1 <= thing[1] <= LONGEST_CODE


def is_rising(numbers):
    return all([one < other for one, other in zip(numbers, numbers[1:])])


def is_full(thing):
    """Whether whatever thing is full lengths."""
    if not isinstance(thing, list) or not 1 <= len(thing) <= MOST_SIGNS:
        return False
    if not all([has_length(part) for part in thing]) or not is_rising([sign for sign, length in thing]):
        return False
    if len(thing) == 1:
        return thing[0][1] == 1
    return sum([1 << (LONGEST_CODE - length) for sign, length in thing]) == 1 << LONGEST_CODE


def codes(lengths_of):
    """The codes of full lengths, a dict from signs to texts."""
    told = {}
    # The number ahead of the first one, which is 0 itself.
    number = -1
    ahead = 0
    for length, sign in sorted([(length, sign) for sign, length in lengths_of]):
        number = (number + 1) << (length - ahead)
        told[sign] = bits_of(number, length)
        ahead = length
    return told


def signs_by_code(lengths_of):
    """The same the other way round, a dict from texts to signs."""
    told = codes(lengths_of)
    return {told[sign]: sign for sign in told}


def sign_at(text, signs, at):
    """The sign whose code begins at a place, and the place behind it, or NoCode."""
    for end in range(at + 1, min(at + LONGEST_CODE, len(text)) + 1):
        if text[at:end] in signs:
            return (signs[text[at:end]], end)
    raise NoCode(at)


def coded(signs, lengths_of):
    """The signs, written by their codes."""
    told = codes(lengths_of)
    return "".join([told[sign] for sign in signs])


def decoded(text, lengths_of, *, many=1, at=0):
    """So many signs from a place on, with the place behind them, or NoCode."""
    signs = signs_by_code(lengths_of)
    told = []
    place = at
    for turn in range(many):
        sign, place = sign_at(text, signs, place)
        told.append(sign)
    return (told, place)
