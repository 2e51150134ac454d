"""Passes: a picture parted so that a coarse one comes first, and put together again."""


def passes(levels):
    """The passes as tuples (x, across, y, down)."""
    side = 1 << levels
    told = [(0, side, 0, side)]
    while side > 1:
        half = side // 2
        told.append((half, side, 0, side))
        told.append((0, half, half, side))
        side = half
    return told


def pass_of(levels, x, y):
    """The number of the pass that has the pixel in the column x, row y."""
    places = [
        (x - left) % across == 0 and (y - top) % down == 0
        for left, across, top, down in passes(levels)
    ]
    return places.index(True)


def how_many(begin, step, end):
    """How many of begin, begin + step and so on are below end; begin is less than step."""
    return (end - begin + step - 1) // step


def size_of(width, height, levels, number):
    """How many columns and rows the pass has, (0, 0) where it has no pixels."""
    x, across, y, down = passes(levels)[number]
    columns = how_many(x, across, width)
    rows = how_many(y, down, height)
    if columns == 0 or rows == 0:
        return (0, 0)
    return (columns, rows)


def pass_rows(picture, x, across, y, down):
    """The rows of one pass; none, rather than empty ones, where the picture is too narrow."""
    if x >= picture[1]:
        return []
    return [row[x::across] for row in picture[3][y::down]]


def parted(picture, levels):
    """For each pass the list of its rows."""
    return [pass_rows(picture, x, across, y, down) for x, across, y, down in passes(levels)]


def spread(width, height, levels, rows):
    """The pixels of the first passes at their places, None at all others."""
    told = [[None] * width for row in range(height)]
    for (x, across, y, down), part in zip(passes(levels), rows):
        for at, row in enumerate(part):
            for beside, pixel in enumerate(row):
                told[y + at * down][x + beside * across] = pixel
    return told


def together(kind, width, height, levels, rows):
    """The picture that is parted into these rows."""
    return (kind, width, height, tuple([tuple(row) for row in spread(width, height, levels, rows)]))
