"""Sections: points 10 and 11."""

import itertools
import random

from tests.samples import (
    Case, all_kinds, any_picture, exactly, few_kinds, greatest, least, numbered_picture, palette, whatever,
)
from tornpictures.errors import Beyond, NoLines, PictureError
from tornpictures.filters import filtered
from tornpictures.lines import line_rows, lines
from tornpictures.pictures import step_of
from tornpictures.rowbytes import row_bytes
from tornpictures.sections import section_bytes, section_lines

LEVELS = (0, 1, 2, 3)
SQUARE = (("grey", 8), 3, 3, ((1, 2, 3), (4, 5, 6), (7, 8, 9)))
NO_NUMBERS = (True, False, None, "", "0", "1", (), (0,), (1,), [], [0], [1], {}, {0: 0}, {1: 1})


def cheapest_filter(row, above, step):
    """The number of the filter by whose row the sum is least, of several the least number."""
    sums = [sum(min(byte, 256 - byte) for byte in filtered(number, row, above, step=step)) for number in range(5)]
    return min(range(5), key=lambda number: (sums[number], number))


def section_by(picture, levels, first, many, choose):
    """The bytes line by line, as a list with a list for each; choose tells the filter of a row by the one above."""
    kind, width, height, rows = picture
    numbered, pixels = lines(width, height, levels), line_rows(picture, levels)
    told = []
    for at in range(first, first + many):
        row = row_bytes(kind, pixels[at])
        above = [0] * len(row)
        if at > first and numbered[at][0] == numbered[at - 1][0]:
            above = row_bytes(kind, pixels[at - 1])
        number = choose(row, above, step_of(kind))
        told.append([number] + filtered(number, row, above, step=step_of(kind)))
    return told


def joined(parts):
    return [byte for part in parts for byte in part]


def sections(picture, levels):
    """Some sections of a picture: all, from each line on, each line alone, and a few in between."""
    many = len(line_rows(picture, levels))
    told = {(0, many), (many - 1, 1)}
    for first in range(many):
        told |= {(first, many - first), (first, 1), (first, (many - first + 1) // 2)}
    return sorted(told)


class SectionBytes(Case):
    def test_by_hand(self):
        self.same(section_bytes(SQUARE), [1, 1, 1, 1, 4, 3, 1, 1, 4, 3, 1, 1])
        self.same(section_bytes(SQUARE, levels=1), [1, 1, 2, 4, 6, 2, 0, 2, 2, 6, 1, 4, 1, 1])
        self.same(section_bytes(SQUARE, levels=2), [0, 1, 0, 3, 1, 7, 2, 0, 2, 2, 6, 1, 4, 1, 1])
        self.same(section_bytes(SQUARE, levels=3), [0, 1, 0, 3, 1, 7, 2, 0, 2, 2, 6, 1, 4, 1, 1])
        colour = (("colour",), 2, 2, (((9, 8, 7), (9, 8, 8)), ((9, 8, 7), (9, 8, 7))))
        self.same(section_bytes(colour), [1, 9, 8, 7, 0, 0, 1, 2, 0, 0, 0, 0, 0, 255])
        dots = (("grey", 1), 9, 1, ((1, 0, 0, 0, 0, 0, 0, 1, 1),))
        self.same(section_bytes(dots), [1, 129, 255])

    def test_the_first_line_of_a_section_goes_by_0s(self):
        # The same line goes by the one above it where this is in the section, else by 0s.
        self.same(section_bytes(SQUARE, first=0, many=2)[4:], [4, 3, 1, 1])
        self.same(section_bytes(SQUARE, first=1, many=1), [1, 4, 1, 1])
        self.same(section_bytes(SQUARE, first=1), [1, 4, 1, 1, 4, 3, 1, 1])
        self.same(section_bytes(SQUARE, first=2), [1, 7, 1, 1])
        alike = (("grey", 8), 1, 3, ((9,), (9,), (9,)))
        self.same(section_bytes(alike), [0, 9, 2, 0, 2, 0])
        self.same(section_bytes(alike, first=1), [0, 9, 2, 0])

    def test_the_first_line_of_a_pass_goes_by_0s(self):
        # The lines of passes of one length: rows of nines throughout, but none has another pass's line above.
        alike = (("grey", 8), 2, 4, ((9, 9), (9, 9), (9, 9), (9, 9)))
        self.same(lines(2, 4, 1), [(0, 0, 1), (0, 1, 1), (1, 0, 1), (1, 1, 1), (2, 0, 2), (2, 1, 2)])
        self.same(section_bytes(alike, levels=1), [0, 9, 2, 0, 0, 9, 2, 0, 1, 9, 0, 2, 0, 0])
        self.same(section_bytes(alike, levels=1, first=1, many=2), [0, 9, 0, 9])
        self.same(section_bytes(alike, levels=1, first=1, many=3), [0, 9, 0, 9, 2, 0])
        self.same(section_bytes(alike, levels=1, first=3), [0, 9, 1, 9, 0, 2, 0, 0])

    def test_all_kinds_levels_and_sections(self):
        for kind in all_kinds():
            picture = any_picture(kind, 5, 6)
            for levels in LEVELS:
                for first, many in sections(picture, levels):
                    wanted = joined(section_by(picture, levels, first, many, cheapest_filter))
                    self.same(section_bytes(picture, levels=levels, first=first, many=many), wanted)

    def test_all_sides(self):
        for kind in few_kinds():
            for width, height in ((1, 1), (1, 24), (24, 1), (24, 24), (7, 3), (8, 9)):
                picture = any_picture(kind, width, height)
                for levels in LEVELS:
                    many = len(line_rows(picture, levels))
                    wanted = joined(section_by(picture, levels, 0, many, cheapest_filter))
                    self.same(section_bytes(picture, levels=levels), wanted)

    def test_smooth_pictures_choose_every_filter(self):
        seen = set()
        for seed in range(12):
            chance = random.Random(seed)
            rows = tuple(
                tuple((x * chance.randrange(9) + y * seed + chance.randrange(3)) % 256 for x in range(12))
                for y in range(9)
            )
            picture = (("grey", 8), 12, 9, rows)
            for levels in LEVELS:
                many = len(line_rows(picture, levels))
                parts = section_by(picture, levels, 0, many, cheapest_filter)
                seen |= {part[0] for part in parts}
                self.same(section_bytes(picture, levels=levels), joined(parts))
        self.assertEqual(seen, {0, 1, 2, 3, 4})

    def test_what_is_left_out(self):
        for kind in few_kinds():
            picture = any_picture(kind, 5, 6)
            many = len(line_rows(picture, 0))
            self.same(section_bytes(picture), section_bytes(picture, levels=0, first=0, many=many))
            self.same(section_bytes(picture), section_bytes(picture, levels=0, first=0, many=None))
            for levels in LEVELS:
                many = len(line_rows(picture, levels))
                for first in range(many):
                    wanted = section_bytes(picture, levels=levels, first=first, many=many - first)
                    self.same(section_bytes(picture, levels=levels, first=first), wanted)
                    self.same(section_bytes(picture, levels=levels, first=first, many=None), wanted)
                    one = section_bytes(picture, levels=levels, many=first + 1)
                    self.same(one, section_bytes(picture, levels=levels, first=0, many=first + 1))

    def test_handing(self):
        self.same(section_bytes(picture=SQUARE, many=1, first=2, levels=1), [0, 2])
        with self.assertRaises(TypeError):
            section_bytes(SQUARE, 0)
        for kind in few_kinds():
            for levels in LEVELS:
                self.check_own(section_bytes, any_picture(kind, 5, 6), levels=levels)
                self.check_own(section_bytes, any_picture(kind, 5, 6), levels=levels, first=2, many=3)


class SectionLines(Case):
    def told(self, picture, bytes_of, **named):
        return section_lines(picture[0], picture[1], picture[2], bytes_of, **named)

    def test_by_hand(self):
        kind = ("grey", 8)
        self.same(section_lines(kind, 3, 3, [1, 1, 1, 1, 4, 3, 1, 1, 4, 3, 1, 1]), [(1, 2, 3), (4, 5, 6), (7, 8, 9)])
        self.same(section_lines(kind, 3, 3, [0, 1, 2, 3, 2, 3, 3, 3, 0, 7, 8, 9]), [(1, 2, 3), (4, 5, 6), (7, 8, 9)])
        self.same(
            section_lines(kind, 3, 3, [1, 1, 2, 4, 6, 2, 0, 2, 2, 6, 1, 4, 1, 1], levels=1),
            [(1, 3), (7, 9), (2,), (8,), (4, 5, 6)],
        )
        self.same(section_lines(kind, 3, 3, [2, 7, 8, 9], first=2), [(7, 8, 9)])
        self.same(section_lines(kind, 3, 3, [3, 9, 9], levels=1, first=1, many=1), [(9, 13)])
        self.same(section_lines(("colour",), 2, 1, [1, 9, 8, 7, 0, 0, 255]), [((9, 8, 7), (9, 8, 6))])
        self.same(section_lines(("named", 2, palette(3)), 5, 1, [0, 0b00011000, 0b10000000]), [(0, 1, 2, 0, 2)])

    def test_the_line_above_is_one_of_the_section_and_the_pass(self):
        # Filter 2 adds the row above: 5 where there is one, 0 where there is none.
        kind = ("grey", 8)
        self.same(section_lines(kind, 1, 2, [2, 5, 2, 1]), [(5,), (6,)])
        self.same(section_lines(kind, 1, 2, [2, 1], first=1), [(1,)])
        self.same(section_lines(kind, 2, 2, [2, 5, 2, 1, 2, 1, 2], levels=1), [(5,), (1,), (1, 2)])
        self.same(section_lines(kind, 2, 3, [2, 5, 2, 1, 2, 1], levels=1, many=3), [(5,), (6,), (1,)])

    def test_there_and_back(self):
        for kind in all_kinds():
            picture = any_picture(kind, 5, 6)
            for levels in LEVELS:
                everything = line_rows(picture, levels)
                for first, many in sections(picture, levels):
                    bytes_of = section_bytes(picture, levels=levels, first=first, many=many)
                    back = self.told(picture, bytes_of, levels=levels, first=first, many=many)
                    self.same(back, everything[first:first + many])

    def test_there_and_back_on_all_sides(self):
        for kind in few_kinds():
            for width, height in ((1, 1), (1, 24), (24, 1), (24, 24), (7, 3), (8, 9)):
                picture = any_picture(kind, width, height)
                for levels in LEVELS:
                    bytes_of = section_bytes(picture, levels=levels)
                    self.same(self.told(picture, bytes_of, levels=levels), line_rows(picture, levels))

    def test_by_whatever_filters(self):
        chance = random.Random(3)
        for kind in all_kinds():
            picture = any_picture(kind, 6, 5)
            for levels in LEVELS:
                everything = line_rows(picture, levels)
                for turn in range(6):
                    first = chance.randrange(len(everything))
                    many = chance.randrange(1, len(everything) - first + 1)
                    parts = section_by(picture, levels, first, many, lambda row, above, step: chance.randrange(5))
                    back = self.told(picture, joined(parts), levels=levels, first=first, many=many)
                    self.same(back, everything[first:first + many])

    def test_each_filter_throughout(self):
        picture = numbered_picture(9, 7)
        for number, levels in itertools.product(range(5), LEVELS):
            many = len(line_rows(picture, levels))
            parts = section_by(picture, levels, 0, many, lambda row, above, step: number)
            self.same(self.told(picture, joined(parts), levels=levels), line_rows(picture, levels))

    def test_what_is_left_out(self):
        bytes_of = section_bytes(SQUARE)
        wanted = [(1, 2, 3), (4, 5, 6), (7, 8, 9)]
        self.same(self.told(SQUARE, bytes_of), wanted)
        self.same(self.told(SQUARE, bytes_of, levels=0, first=0, many=None), wanted)
        self.same(self.told(SQUARE, bytes_of, levels=0, first=0, many=3), wanted)
        self.same(self.told(SQUARE, section_bytes(SQUARE, first=1), first=1), wanted[1:])
        self.same(self.told(SQUARE, section_bytes(SQUARE, many=2), many=2), wanted[:2])

    def test_handing(self):
        named = {"kind": ("grey", 8), "width": 3, "height": 3, "bytes_of": [0, 4], "levels": 1, "first": 2, "many": 1}
        self.same(section_lines(**named), [(4,)])
        with self.assertRaises(TypeError):
            section_lines(("grey", 8), 3, 3, [0, 1, 2, 3], 0)
        for kind in few_kinds():
            picture = any_picture(kind, 5, 6)
            for levels in LEVELS:
                bytes_of = section_bytes(picture, levels=levels, first=1, many=3)
                self.check_own(section_lines, kind, 5, 6, bytes_of, levels=levels, first=1, many=3)


class NoSuchLines(Case):
    """What isn't the bytes of a section."""

    def refused(self, at, kind, width, height, bytes_of, **named):
        before = exactly(bytes_of)
        with self.assertRaises(NoLines) as caught:
            section_lines(kind, width, height, bytes_of, **named)
        self.same(caught.exception.at, at, before[:200])
        self.assertIsInstance(caught.exception, PictureError)
        self.assertEqual(exactly(bytes_of), before)

    def test_bytes_lacking_at_each_place(self):
        for kind in few_kinds():
            for levels in LEVELS:
                picture = any_picture(kind, 6, 5)
                many = len(line_rows(picture, levels))
                for first in (0, 1):
                    parts = section_by(picture, levels, first, many - first, cheapest_filter)
                    ats = joined([at] * len(part) for at, part in enumerate(parts))
                    for cut, at in enumerate(ats):
                        self.refused(at, kind, 6, 5, joined(parts)[:cut], levels=levels, first=first)

    def test_bytes_left(self):
        for kind in few_kinds():
            picture = any_picture(kind, 6, 5)
            for levels in LEVELS:
                for first, many in sections(picture, levels):
                    named = {"levels": levels, "first": first, "many": many}
                    bytes_of = section_bytes(picture, **named)
                    for more in ([0], [255], [0, 0], [1, 2, 3], [0] * 100):
                        self.refused(many, kind, 6, 5, bytes_of + more, **named)

    def test_a_line_less_or_more_than_asked_for(self):
        bytes_of = section_bytes(SQUARE)
        self.refused(2, SQUARE[0], 3, 3, bytes_of, many=2)
        self.refused(2, SQUARE[0], 3, 3, bytes_of, first=1)
        self.refused(3, SQUARE[0], 3, 4, bytes_of)
        self.refused(1, SQUARE[0], 3, 3, section_bytes(SQUARE, many=1), many=2)

    def test_no_filter(self):
        for kind in few_kinds():
            picture = any_picture(kind, 6, 5)
            for levels in LEVELS:
                many = len(line_rows(picture, levels))
                for at, number in itertools.product(range(many), (5, 6, 7, 128, 255)):
                    parts = section_by(picture, levels, 0, many, cheapest_filter)
                    parts[at][0] = number
                    self.refused(at, kind, 6, 5, joined(parts), levels=levels)

    def test_the_first_wrong_line_is_told(self):
        parts = section_by(SQUARE, 0, 0, 3, cheapest_filter)
        parts[1][0] = parts[2][0] = 9
        self.refused(1, SQUARE[0], 3, 3, joined(parts))
        self.refused(1, SQUARE[0], 3, 3, joined(parts) + [0])
        self.refused(1, SQUARE[0], 3, 3, joined(parts)[:-1])

    def test_bits_left_that_are_not_0(self):
        for depth, width in ((1, 1), (1, 7), (1, 9), (2, 3), (2, 5), (4, 1), (4, 3)):
            for kind in (("grey", depth), ("named", depth, palette(2))):
                left = 8 * -(-width * depth // 8) - width * depth
                picture = any_picture(kind, width, 3)
                for at, bit in itertools.product(range(3), range(left)):
                    parts = section_by(picture, 0, 0, 3, lambda row, above, step: 0)
                    parts[at][-1] += 1 << bit
                    self.refused(at, kind, width, 3, joined(parts))

    def test_bits_left_by_the_filter(self):
        kind = ("grey", 1)
        self.same(section_lines(kind, 1, 2, [0, 128, 2, 128]), [(1,), (0,)])
        self.refused(1, kind, 1, 2, [0, 128, 2, 1])
        self.refused(1, kind, 1, 2, [0, 128, 3, 128])
        self.refused(0, kind, 1, 2, [0, 1, 2, 255])

    def test_numbers_beyond_the_palette(self):
        for depth, many in ((1, 1), (2, 1), (2, 3), (4, 9), (8, 1), (8, 200), (8, 255)):
            kind = ("named", depth, palette(many))
            wide = ("grey", depth)
            rows = [[greatest(kind)] * 5 for row in range(3)]
            for y, x in itertools.product(range(3), range(5)):
                numbers = [list(row) for row in rows]
                numbers[y][x] = many
                picture = (wide, 5, 3, tuple(tuple(row) for row in numbers))
                self.refused(y, kind, 5, 3, section_bytes(picture))
                self.same(section_lines(wide, 5, 3, section_bytes(picture)), line_rows(picture, 0))

    def test_no_list_of_bytes(self):
        right = section_bytes(SQUARE)
        for thing in (None, True, 0, 12, "", "abc", tuple(right), dict(enumerate(right)), [None], [[]], [right], (right,)):
            self.refused(0, SQUARE[0], 3, 3, thing)
        for at in range(len(right)):
            for wrong in (-1, 256, True, False, None, "1", [1], (), 10 ** 59):
                self.refused(0, SQUARE[0], 3, 3, right[:at] + [wrong] + right[at + 1:])
        self.refused(0, SQUARE[0], 3, 3, right + [256])
        self.refused(0, SQUARE[0], 3, 3, [])
        self.refused(0, SQUARE[0], 3, 3, right[:3] + ["a"])

    def test_whatever_thing(self):
        for thing in whatever():
            if thing == [0] * 20000:
                self.refused(5, SQUARE[0], 3, 3, thing, levels=1)
            elif thing != [1, 2]:
                self.refused(0, SQUARE[0], 3, 3, thing, levels=1)
        self.refused(0, SQUARE[0], 3, 3, [1, 2], levels=1)

    def test_the_error_changes_nothing(self):
        bytes_of = section_bytes(SQUARE)
        for wrong in (bytes_of[:-1], bytes_of + [0], None):
            self.refused(2 if wrong == bytes_of[:-1] else 3 if wrong else 0, SQUARE[0], 3, 3, wrong)
            self.same(section_lines(SQUARE[0], 3, 3, bytes_of), line_rows(SQUARE, 0))


class NoLineThere(Case):
    """Beyond, ahead of all else."""

    def beyond(self, at, picture, **named):
        kind, width, height, rows = picture
        for bytes_of in ([], [0] * 50, None, "text", section_bytes(picture)):
            with self.assertRaises(Beyond) as caught:
                section_lines(kind, width, height, bytes_of, **named)
            self.same(caught.exception.at, at, named)
        with self.assertRaises(Beyond) as caught:
            section_bytes(picture, **named)
        self.same(caught.exception.at, at, named)

    def test_first(self):
        for levels in LEVELS:
            many = len(lines(3, 3, levels))
            for first in (-1, -2, -many, many, many + 1, 10 ** 59, -10 ** 59, *NO_NUMBERS):
                self.beyond(0, SQUARE, levels=levels, first=first)
                self.beyond(0, SQUARE, levels=levels, first=first, many=None)
                self.beyond(0, SQUARE, levels=levels, first=first, many=1)

    def test_many(self):
        for levels in LEVELS:
            all_lines = len(lines(3, 3, levels))
            for first in range(all_lines):
                left = all_lines - first
                for many in (0, -1, -left, left + 1, left + 2, 10 ** 59, -10 ** 59, *NO_NUMBERS):
                    if many is not None:
                        self.beyond(1, SQUARE, levels=levels, first=first, many=many)
                self.assertEqual(len(section_bytes(SQUARE, levels=levels, first=first, many=left)) > 0, True)
            self.beyond(1, SQUARE, levels=levels, many=0)

    def test_both(self):
        for first, many in itertools.product((-1, 3, 99, *NO_NUMBERS), (0, -1, 4, 99, *NO_NUMBERS)):
            self.beyond(0, SQUARE, first=first, many=many)

    def test_whatever_thing(self):
        for thing in whatever():
            whole = isinstance(thing, int) and not isinstance(thing, bool)
            if not (whole and 0 <= thing < 3):
                self.beyond(0, SQUARE, first=thing)
            if not (whole and 1 <= thing <= 3) and thing is not None:
                self.beyond(1, SQUARE, many=thing)

    def test_it_is_an_index_error_and_no_picture_error(self):
        with self.assertRaises(IndexError) as caught:
            section_bytes(SQUARE, first=3)
        self.assertNotIsInstance(caught.exception, PictureError)

    def test_one_line_alone(self):
        for kind in few_kinds():
            picture = (kind, 1, 1, ((least(kind),),))
            for levels in LEVELS:
                self.same(section_bytes(picture, levels=levels, first=0, many=1)[0], 0)
                self.beyond(0, picture, levels=levels, first=1)
                self.beyond(1, picture, levels=levels, many=2)
