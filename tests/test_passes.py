"""Passes: point 8."""

import random

from tests.samples import Case, all_kinds, any_picture, any_pixel, few_kinds, numbered_picture
from tornpictures.passes import parted, pass_of, passes, size_of, together

LEVELS = (0, 1, 2, 3)
TOLD = {
    0: [(0, 1, 0, 1)],
    1: [(0, 2, 0, 2), (1, 2, 0, 2), (0, 1, 1, 2)],
    2: [(0, 4, 0, 4), (2, 4, 0, 4), (0, 2, 2, 4), (1, 2, 0, 2), (0, 1, 1, 2)],
    3: [(0, 8, 0, 8), (4, 8, 0, 8), (0, 4, 4, 8), (2, 4, 0, 4), (0, 2, 2, 4), (1, 2, 0, 2), (0, 1, 1, 2)],
}
SIZES = [(1, 1), (24, 1), (1, 24), (24, 24), (2, 2), (3, 5), (5, 3), (8, 8), (9, 9), (4, 17), (17, 4), (23, 24), (5, 1)]


def places(width, height, one):
    """The places of a pass, row by row: none where it has no pixels."""
    x, across, y, down = one
    rows = [[(column, row) for column in range(x, width, across)] for row in range(y, height, down)]
    return [row for row in rows if row]


class Passes(Case):
    def test_all_levels(self):
        for levels in LEVELS:
            self.same(passes(levels), TOLD[levels])
            self.same(passes(levels=levels), TOLD[levels])
            self.assertEqual(len(passes(levels)), 2 * levels + 1)
            self.check_own(passes, levels)

    def test_every_place_is_in_the_one_pass_that_is_told(self):
        for levels in LEVELS:
            for x in range(24):
                for y in range(24):
                    having = [
                        at for at, (left, across, top, down) in enumerate(TOLD[levels])
                        if x in range(left, 24, across) and y in range(top, 24, down)
                    ]
                    self.assertEqual(len(having), 1)
                    self.same(pass_of(levels, x, y), having[0])
        self.same(pass_of(levels=2, x=2, y=0), 1)
        self.same(pass_of(levels=2, x=0, y=2), 2)

    def test_some_places_by_hand(self):
        for levels, x, y, wanted in ((0, 0, 0, 0), (0, 23, 23, 0), (1, 0, 0, 0), (1, 1, 0, 1), (1, 0, 1, 2), (1, 1, 1, 2),
                                     (1, 22, 22, 0), (3, 8, 16, 0), (3, 4, 0, 1), (3, 4, 4, 2), (3, 0, 4, 2), (3, 2, 0, 3),
                                     (3, 6, 4, 3), (3, 0, 2, 4), (3, 6, 6, 4), (3, 1, 0, 5), (3, 23, 22, 5), (3, 23, 23, 6)):
            self.same(pass_of(levels, x, y), wanted)

    def test_all_sizes(self):
        for levels in LEVELS:
            for width in range(1, 25):
                for height in range(1, 25):
                    for number, one in enumerate(TOLD[levels]):
                        rows = places(width, height, one)
                        wanted = (len(rows[0]), len(rows)) if rows else (0, 0)
                        self.same(size_of(width, height, levels, number), wanted)

    def test_sizes_by_hand(self):
        self.same(size_of(24, 24, 0, 0), (24, 24))
        self.same(size_of(24, 24, 3, 0), (3, 3))
        self.same(size_of(9, 8, 3, 0), (2, 1))
        self.same(size_of(1, 24, 1, 1), (0, 0))
        self.same(size_of(24, 1, 1, 2), (0, 0))
        self.same(size_of(4, 24, 3, 1), (0, 0))
        self.same(size_of(5, 9, 3, 1), (1, 2))
        self.same(size_of(width=5, height=9, levels=3, number=6), (5, 4))


class Parting(Case):
    def test_parted_by_hand(self):
        picture = (("grey", 8), 3, 3, ((1, 2, 3), (4, 5, 6), (7, 8, 9)))
        self.same(parted(picture, 0), [[(1, 2, 3), (4, 5, 6), (7, 8, 9)]])
        self.same(parted(picture, 1), [[(1, 3), (7, 9)], [(2,), (8,)], [(4, 5, 6)]])
        self.same(parted(picture, 2), [[(1,)], [(3,)], [(7, 9)], [(2,), (8,)], [(4, 5, 6)]])
        self.same(parted(picture, 3), [[(1,)], [], [], [(3,)], [(7, 9)], [(2,), (8,)], [(4, 5, 6)]])
        self.same(parted((("grey", 8), 1, 1, ((5,),)), 3), [[(5,)], [], [], [], [], [], []])
        self.same(parted(picture=picture, levels=1), parted(picture, 1))

    def test_the_pixels_of_each_pass(self):
        for levels in LEVELS:
            for width, height in SIZES:
                wanted = [
                    [tuple((x, y, 7) for x, y in row) for row in places(width, height, one)] for one in TOLD[levels]
                ]
                self.same(parted(numbered_picture(width, height), levels), wanted)

    def test_a_pass_without_pixels_has_no_rows(self):
        for levels in LEVELS:
            for width in range(1, 25):
                for height in range(1, 25):
                    told = parted((("grey", 1), width, height, ((0,) * width,) * height), levels)
                    self.assertEqual(len(told), 2 * levels + 1)
                    for number, rows in enumerate(told):
                        columns, many = size_of(width, height, levels, number)
                        self.same(rows, [(0,) * columns] * many)

    def test_together_by_hand(self):
        rows = [[(1, 3), (7, 9)], [(2,), (8,)], [(4, 5, 6)]]
        wanted = (("grey", 8), 3, 3, ((1, 2, 3), (4, 5, 6), (7, 8, 9)))
        self.same(together(("grey", 8), 3, 3, 1, rows), wanted)
        self.same(together(kind=("grey", 8), width=3, height=3, levels=1, rows=rows), wanted)

    def test_parted_and_put_together_the_picture_is_the_same(self):
        for kind in all_kinds():
            for width, height in ((1, 1), (24, 1), (1, 24), (24, 24), (7, 10)):
                picture = any_picture(kind, width, height)
                for levels in LEVELS:
                    self.same(together(kind, width, height, levels, parted(picture, levels)), picture)

    def test_all_sides_come_back(self):
        for width in range(1, 25):
            for height in range(1, 25):
                picture = any_picture(("grey", 8), width, height)
                for levels in LEVELS:
                    self.same(together(("grey", 8), width, height, levels, parted(picture, levels)), picture)

    def test_one_pixel_otherwise_is_that_pixel_otherwise(self):
        chance = random.Random(13)
        for kind in few_kinds():
            for width, height in ((1, 1), (5, 1), (1, 6), (9, 10)):
                picture = any_picture(kind, width, height)
                for levels in LEVELS:
                    for number, one in enumerate(TOLD[levels]):
                        for at, row in enumerate(places(width, height, one)):
                            beside = chance.randrange(len(row))
                            self.one_otherwise(picture, levels, number, at, beside, row[beside], chance)

    def one_otherwise(self, picture, levels, number, at, beside, place, chance):
        kind, width, height, rows = picture
        pixel = any_pixel(kind, chance)
        told = parted(picture, levels)
        told[number][at] = told[number][at][:beside] + (pixel,) + told[number][at][beside + 1:]
        wanted = [list(row) for row in rows]
        wanted[place[1]][place[0]] = pixel
        self.same(together(kind, width, height, levels, told), (kind, width, height, tuple(map(tuple, wanted))))

    def test_handing(self):
        for kind in few_kinds():
            for width, height in ((1, 1), (5, 9)):
                picture = any_picture(kind, width, height)
                for levels in LEVELS:
                    told = self.check_own(parted, picture, levels)
                    self.check_own(together, kind, width, height, levels, told)
