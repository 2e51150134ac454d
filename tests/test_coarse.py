"""Coarse pictures: point 9, and what point 3 says of early passes."""

from tests.samples import Case, any_picture, few_kinds, numbered_picture
from tornpictures.coarse import coarse, grid
from tornpictures.passes import parted, pass_of

LEVELS = (0, 1, 2, 3)
GRIDS = {
    0: [(1, 1)],
    1: [(2, 2), (1, 2), (1, 1)],
    2: [(4, 4), (2, 4), (2, 2), (1, 2), (1, 1)],
    3: [(8, 8), (4, 8), (4, 4), (2, 4), (2, 2), (1, 2), (1, 1)],
}
SIZES = [(1, 1), (24, 1), (1, 24), (24, 24), (2, 2), (3, 5), (5, 3), (8, 8), (9, 9), (4, 17), (17, 4), (7, 7)]


def all_stops():
    return [(levels, many) for levels in LEVELS for many in range(1, 2 * levels + 2)]


def shown(picture, levels, many):
    kind, width, height, rows = picture
    return coarse(kind, width, height, levels, parted(picture, levels)[:many])


class Grids(Case):
    def test_all_levels_from_one_pass_to_all(self):
        for levels, many in all_stops():
            self.same(grid(levels, many), GRIDS[levels][many - 1])
            self.same(grid(levels=levels, many=many), GRIDS[levels][many - 1])

    def test_a_place_is_in_one_of_the_first_passes_just_where_it_is_on_the_grid(self):
        for levels, many in all_stops():
            across, down = grid(levels, many)
            for x in range(24):
                for y in range(24):
                    on_grid = x % across == 0 and y % down == 0
                    self.assertEqual(pass_of(levels, x, y) < many, on_grid)


class Coarse(Case):
    def test_by_hand(self):
        kind = ("grey", 8)
        rows = [[(1, 3), (7, 9)], [(2,), (8,)], [(4, 5, 6)]]
        self.same(coarse(kind, 3, 3, 1, rows[:1]), (kind, 3, 3, ((1, 1, 3), (1, 1, 3), (7, 7, 9))))
        self.same(coarse(kind, 3, 3, 1, rows[:2]), (kind, 3, 3, ((1, 2, 3), (1, 2, 3), (7, 8, 9))))
        self.same(coarse(kind, 3, 3, 1, rows), (kind, 3, 3, ((1, 2, 3), (4, 5, 6), (7, 8, 9))))
        self.same(coarse(kind, 2, 3, 3, [[(5,)]]), (kind, 2, 3, ((5, 5), (5, 5), (5, 5))))
        wanted = (kind, 3, 2, ((1, 1, 3), (1, 1, 3)))
        self.same(coarse(kind=kind, width=3, height=2, levels=1, rows=[[(1, 3)]]), wanted)

    def test_each_place_shows_the_nearest_pixel_to_the_left_and_above(self):
        for levels, many in all_stops():
            across, down = GRIDS[levels][many - 1]
            for width, height in SIZES:
                picture = numbered_picture(width, height)
                rows = tuple(
                    tuple((x // across * across, y // down * down, 7) for x in range(width)) for y in range(height)
                )
                self.same(shown(picture, levels, many), (("colour",), width, height, rows))

    def test_all_sides(self):
        for width in range(1, 25):
            for height in range(1, 25, 3):
                picture = any_picture(("grey", 8), width, height)
                for levels, many in all_stops():
                    across, down = GRIDS[levels][many - 1]
                    rows = tuple(
                        tuple(picture[3][y // down * down][x // across * across] for x in range(width))
                        for y in range(height)
                    )
                    self.same(shown(picture, levels, many), (("grey", 8), width, height, rows))

    def test_behind_all_passes_it_is_the_picture(self):
        for kind in few_kinds():
            for width, height in SIZES:
                picture = any_picture(kind, width, height)
                for levels in LEVELS:
                    self.same(shown(picture, levels, 2 * levels + 1), picture)

    def test_each_pixel_of_the_first_passes_stands_at_its_place(self):
        for kind in few_kinds():
            for width, height in SIZES:
                picture = any_picture(kind, width, height)
                for levels, many in all_stops():
                    told = shown(picture, levels, many)
                    self.same(told[:3], (kind, width, height))
                    for y in range(height):
                        for x in range(width):
                            if pass_of(levels, x, y) < many:
                                self.assertEqual(told[3][y][x], picture[3][y][x])

    def test_handing(self):
        for kind in few_kinds():
            for width, height in ((1, 1), (5, 9)):
                for levels, many in all_stops():
                    rows = parted(any_picture(kind, width, height), levels)[:many]
                    self.check_own(coarse, kind, width, height, levels, rows)
