"""Lines: what point 10 says of them."""

from tests.samples import Case, any_picture, few_kinds, numbered_picture
from tornpictures.lines import line_rows, lines
from tornpictures.passes import pass_of, passes, size_of

LEVELS = (0, 1, 2, 3)


class Lines(Case):
    def test_by_hand(self):
        self.same(lines(3, 2, 0), [(0, 0, 3), (0, 1, 3)])
        self.same(lines(3, 3, 1), [(0, 0, 2), (0, 1, 2), (1, 0, 1), (1, 1, 1), (2, 0, 3)])
        self.same(lines(1, 1, 3), [(0, 0, 1)])
        self.same(lines(1, 3, 1), [(0, 0, 1), (0, 1, 1), (2, 0, 1)])
        self.same(lines(3, 3, 3), [(0, 0, 1), (3, 0, 1), (4, 0, 2), (5, 0, 1), (5, 1, 1), (6, 0, 3)])
        self.same(lines(width=4, height=1, levels=1), [(0, 0, 2), (1, 0, 2)])

    def test_all_levels_and_sides(self):
        for levels in LEVELS:
            for width in range(1, 25):
                for height in range(1, 25):
                    wanted = []
                    for number in range(2 * levels + 1):
                        columns, rows = size_of(width, height, levels, number)
                        wanted += [(number, row, columns) for row in range(rows)]
                    told = lines(width, height, levels)
                    self.same(told, wanted)
                    self.assertEqual(sum(length for number, row, length in told), width * height)
                    self.assertNotIn(0, [length for number, row, length in told])

    def test_the_list_is_a_new_one_each_time(self):
        for levels in LEVELS:
            self.check_own(lines, 5, 7, levels)


class LineRows(Case):
    def test_by_hand(self):
        picture = (("grey", 8), 3, 3, ((1, 2, 3), (4, 5, 6), (7, 8, 9)))
        self.same(line_rows(picture, 0), [(1, 2, 3), (4, 5, 6), (7, 8, 9)])
        self.same(line_rows(picture, 1), [(1, 3), (7, 9), (2,), (8,), (4, 5, 6)])
        self.same(line_rows(picture, 3), [(1,), (3,), (7, 9), (2,), (8,), (4, 5, 6)])
        self.same(line_rows(picture=picture, levels=2), [(1,), (3,), (7, 9), (2,), (8,), (4, 5, 6)])

    def test_each_pixel_just_once_and_in_its_line(self):
        for levels in LEVELS:
            for width in range(1, 25):
                for height in range(1, 25, 2):
                    self.check_places(width, height, levels)

    def check_places(self, width, height, levels):
        told = line_rows(numbered_picture(width, height), levels)
        numbered = lines(width, height, levels)
        self.assertEqual([len(row) for row in told], [length for number, row, length in numbered])
        for (number, at, length), row in zip(numbered, told):
            x, across, y, down = passes(levels)[number]
            wanted = tuple((x + across * beside, y + down * at, 7) for beside in range(length))
            self.same(row, wanted)
            self.assertEqual({pass_of(levels, column, line) for column, line, seven in row}, {number})
        everything = [pixel for row in told for pixel in row]
        self.assertEqual(sorted(everything), [(x, y, 7) for x in range(width) for y in range(height)])

    def test_pictures_of_all_sorts(self):
        for kind in few_kinds():
            for width, height in ((1, 1), (24, 1), (1, 24), (24, 24), (5, 9)):
                picture = any_picture(kind, width, height)
                for levels in LEVELS:
                    wanted = []
                    for x, across, y, down in passes(levels):
                        wanted += [row[x::across] for row in picture[3][y::down] if x < width]
                    self.same(line_rows(picture, levels), wanted)

    def test_new_lists_each_time_and_the_picture_stays(self):
        for kind in few_kinds():
            for levels in LEVELS:
                self.check_own(line_rows, any_picture(kind, 5, 9), levels)
