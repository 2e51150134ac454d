"""Coarse pictures: what the first passes show of the whole."""

from tornpictures.passes import passes, spread


def grid(levels, many):
    """How far apart the columns and the rows are that are there behind the first so many passes."""
    x, across, y, down = passes(levels)[many - 1]
    # A pass fills just the middle between the columns, or the rows, of those ahead of it.
    return (x if x > 0 else across, y if y > 0 else down)


def coarse(kind, width, height, levels, rows):
    """The picture of the first passes, each pixel shown up to the next ones to the right and below."""
    across, down = grid(levels, len(rows))
    known = spread(width, height, levels, rows)
    shown = [
        tuple([known[y - y % down][x - x % across] for x in range(width)])
        for y in range(height)
    ]
    return (kind, width, height, tuple(shown))
