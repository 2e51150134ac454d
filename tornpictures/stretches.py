"""Bytes, said by single bytes and by stretches of what was said ahead."""

from tornpictures.errors import NoSaying
from tornpictures.wholes import is_byte, is_whole

FARTHEST = 64
SHORTEST = 3
LONGEST = 34


def stretch_from(bytes_of, at, far):
    """How many bytes from a place on are those that begin so far ahead of it."""
    most = min(LONGEST, len(bytes_of) - at)
    many = 0
    while many < most and bytes_of[at + many] == bytes_of[at + many - far]:
        many += 1
    return many


def longest_at(bytes_of, at):
    """The longest stretch that can be said again at a place, the nearest of several, as (far, many)."""
    best = (0, 0)
    for far in range(1, min(FARTHEST, at) + 1):
        many = stretch_from(bytes_of, at, far)
        if many > best[1]:
            best = (far, many)
    return best


def said(bytes_of):
    """The saying of the bytes by the rule: at each place the longest stretch, else the byte."""
    told = []
    at = 0
    while at < len(bytes_of):
        far, many = longest_at(bytes_of, at)
        if many >= SHORTEST:
            told.append(("again", far, many))
            at += many
        else:
            told.append(("byte", bytes_of[at]))
            at += 1
    return told


def is_single(thing):
    return len(thing) == 2 and thing[0] == "byte" and is_byte(thing[1])


def is_stretch(thing, behind):
    """Whether a tuple is a stretch that can be said behind so many bytes."""
    if len(thing) != 3 or thing[0] != "again" or not is_whole(thing[1]) or not is_whole(thing[2]):
        return False
    return 1 <= thing[1] <= min(FARTHEST, behind) and SHORTEST <= thing[2] <= LONGEST


def unsaid(saying):
    """The bytes that the saying tells, or NoSaying."""
    if not isinstance(saying, list):
        raise NoSaying(0)
    told = []
    for at, part in enumerate(saying):
        if not isinstance(part, tuple):
            raise NoSaying(at)
        if is_single(part):
            told.append(part[1])
        elif is_stretch(part, len(told)):
            # One by one, as a stretch may go on with bytes that it has just said again itself.
            for turn in range(part[2]):
                told.append(told[-part[1]])
        else:
            raise NoSaying(at)
    return told
