"""Rows of bytes, led through filters by their neighbours and led back."""


def nearest(left, up, corner):
    """The neighbour nearest to what they foretell together, the first one of several."""
    aim = left + up - corner
    best = left
    for side in (up, corner):
        if abs(aim - side) < abs(aim - best):
            best = side
    return best


def foretold(number, row, above, at, step):
    """What the filter foretells of the byte at a place, by what is ahead of it and above."""
    left = row[at - step] if at >= step else 0
    up = above[at]
    if number == 0:
        return 0
    if number == 1:
        return left
    if number == 2:
        return up
    if number == 3:
        return (left + up) // 2
    return nearest(left, up, above[at - step] if at >= step else 0)


def filtered(number, row, above, *, step=1):
    """The row led through the filter, by the row above as it is."""
    return [(byte - foretold(number, row, above, at, step)) & 255 for at, byte in enumerate(row)]


def undone(number, row, above, *, step=1):
    """The row that was filtered to this one, told from the left on."""
    told = []
    for at, byte in enumerate(row):
        told.append((byte + foretold(number, told, above, at, step)) & 255)
    return told
