"""Lines: the rows of all passes, one behind the other."""

from tornpictures.passes import parted, size_of


def lines(width, height, levels):
    """The lines as tuples (pass, row, length)."""
    told = []
    for number in range(2 * levels + 1):
        columns, rows = size_of(width, height, levels, number)
        told.extend([(number, row, columns) for row in range(rows)])
    return told


def line_rows(picture, levels):
    """The lines, each as the tuple of its pixels."""
    return [row for part in parted(picture, levels) for row in part]
