"""What rows of bytes cost, and the filter that is chosen by it."""

from tornpictures.filters import filtered
from tornpictures.wholes import is_bytes, is_whole

FILTERS = 5


def cost(row):
    """The sum of the bytes, each counted as itself or as 256 less it, whichever is less."""
    return sum([min(byte, 256 - byte) for byte in row])


def costs(row, above, *, step=1):
    """The costs of the five filtered rows."""
    return [cost(filtered(number, row, above, step=step)) for number in range(FILTERS)]


def chosen(row, above, *, step=1):
    """The filter of least cost, of several the least one, and the row filtered by it."""
    told = costs(row, above, step=step)
    number = told.index(min(told))
    return (number, filtered(number, row, above, step=step))


def is_chosen(row, above, thing, *, step=1):
    """Whether whatever thing is what is chosen."""
    if not isinstance(thing, tuple) or len(thing) != 2:
        return False
    # Python takes truths as equal to 0 and 1, so the kinds are asked ahead of the values.
    if not is_whole(thing[0]) or not is_bytes(thing[1]):
        return False
    return thing == chosen(row, above, step=step)
