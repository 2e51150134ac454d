"""The prices of sayings, the cheapest saying of bytes, and the table that is its paper."""

from tornpictures.stretches import SHORTEST, longest_at
from tornpictures.wholes import is_whole


def price(saying, *, single=9, again=20):
    """What the saying costs: single for each byte, again for each stretch."""
    return sum([single if part[0] == "byte" else again for part in saying])


def lengths_at(bytes_of, at):
    """How long the stretches are that can be said again at a place; a part of one can be said as well."""
    return list(range(SHORTEST, longest_at(bytes_of, at)[1] + 1))


def table(bytes_of, *, single=9, again=20):
    """For each place the least price of saying all bytes from it on."""
    least = [0] * (len(bytes_of) + 1)
    for at in range(len(bytes_of) - 1, -1, -1):
        # A shorter stretch may be the better one: what it leaves may be just long enough to be said again.
        ways = [again + least[at + many] for many in lengths_at(bytes_of, at)]
        least[at] = min([single + least[at + 1], *ways])
    return least


def cheapest(bytes_of, *, single=9, again=20):
    """A saying of the bytes of least price."""
    least = table(bytes_of, single=single, again=again)
    told = []
    at = 0
    while at < len(bytes_of):
        if least[at] == single + least[at + 1]:
            told.append(("byte", bytes_of[at]))
            at += 1
        else:
            fitting = [many for many in lengths_at(bytes_of, at) if least[at] == again + least[at + many]]
            told.append(("again", longest_at(bytes_of, at)[0], fitting[0]))
            at += fitting[0]
    return told


def lets_table(bytes_of, thing, *, single=9, again=20):
    """Whether whatever thing is the table."""
    # Python takes truths as equal to 0 and 1, so the kinds are asked ahead of the values.
    if not isinstance(thing, list) or not all([is_whole(part) for part in thing]):
        return False
    return thing == table(bytes_of, single=single, again=again)
