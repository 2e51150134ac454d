"""Kinds, pictures and steps: point 4."""

import copy

from tests.samples import Case, all_kinds, any_picture, exactly, few_kinds, greatest, least, palette, whatever
from tornpictures.pictures import is_kind, is_picture, step_of

WRONG_DEPTHS = (0, -1, 3, 5, 6, 7, 9, 16, 10 ** 59, True, False, None, "1", "8", "", (1,), [1], {1: 1}, ())
WRONG_COLOURS = (
    (), (1,), (1, 2), (1, 2, 3, 4), (-1, 2, 3), (1, -1, 3), (1, 2, -1), (256, 2, 3), (1, 256, 3), (1, 2, 256),
    (True, 2, 3), (1, False, 3), (1, 2, True), ("1", 2, 3), (1, None, 3), (1, 2, (3,)), (1, 2, [3]),
    [1, 2, 3], {1: 1, 2: 2, 3: 3}, "abc", None, 1, True, ((1, 2, 3),), (10 ** 59, 0, 0),
)


class Told(Case):
    """True and False themselves are told, and what is handed in stays."""

    def tells(self, asked, thing, wanted):
        before = exactly(thing)
        self.assertIs(asked(thing), wanted, before[:200])
        self.assertIs(asked(thing), wanted)
        self.assertEqual(exactly(thing), before)


class Kinds(Told):
    def test_all_words_and_depths(self):
        for kind in all_kinds():
            self.tells(is_kind, kind, True)

    def test_by_name(self):
        self.assertIs(is_kind(thing=("colour",)), True)
        self.assertIs(is_kind(thing=("color",)), False)

    def test_depths_that_are_none(self):
        for depth in WRONG_DEPTHS:
            self.tells(is_kind, ("grey", depth), False)
            self.tells(is_kind, ("named", depth, ((1, 2, 3),)), False)

    def test_palettes_of_none_of_one_of_all_of_one_too_many(self):
        for depth in (1, 2, 4, 8):
            full = 2 ** depth
            for many, wanted in ((0, False), (1, True), (full - 1, True), (full, True), (full + 1, False), (600, False)):
                self.tells(is_kind, ("named", depth, palette(many)), wanted)

    def test_colours_that_are_alike(self):
        self.tells(is_kind, ("named", 1, ((1, 2, 3), (1, 2, 3))), True)
        self.tells(is_kind, ("named", 8, ((0, 0, 0),) * 256), True)
        self.tells(is_kind, ("named", 8, ((255, 255, 255),) * 256), True)

    def test_palettes_that_are_none(self):
        for thing in ([(1, 2, 3)], {(1, 2, 3): 0}, "abc", None, 1, True, (1, 2, 3), (1,), [[1, 2, 3]]):
            self.tells(is_kind, ("named", 2, thing), False)

    def test_colours_that_are_none(self):
        for colour in WRONG_COLOURS:
            self.tells(is_kind, ("named", 2, (colour,)), False)
            self.tells(is_kind, ("named", 2, ((1, 2, 3), colour)), False)
            self.tells(is_kind, ("named", 2, (colour, (1, 2, 3))), False)

    def test_a_part_more_or_fewer(self):
        for kind in all_kinds():
            for more in (None, 8, 1, (), ((1, 2, 3),), "grey"):
                self.tells(is_kind, kind + (more,), False)
        for thing in ((), ("grey",), ("named",), ("named", 8), ("colour", 8), ("grey", 8, ((1, 2, 3),))):
            self.tells(is_kind, thing, False)

    def test_parts_in_another_order(self):
        self.tells(is_kind, (8, "grey"), False)
        self.tells(is_kind, ("named", ((1, 2, 3),), 8), False)
        self.tells(is_kind, (8, "named", ((1, 2, 3),)), False)

    def test_words_that_are_none(self):
        for word in ("", "Grey", "gray", "grey ", "GREY", "color", "colours", "name", "g", None, 0, 1, True, (), [], ("grey",)):
            self.tells(is_kind, (word,), False)
            self.tells(is_kind, (word, 8), False)
            self.tells(is_kind, (word, 8, ((1, 2, 3),)), False)

    def test_lists_texts_and_dicts_for_the_tuple(self):
        for thing in (["grey", 8], ["colour"], ["named", 8, ((1, 2, 3),)], "colour", {"colour": 0}, {0: "grey", 1: 8}):
            self.tells(is_kind, thing, False)

    def test_whatever_thing(self):
        for thing in whatever():
            self.tells(is_kind, thing, False)
            self.tells(is_kind, ("grey", thing), is_a_depth(thing))
            self.tells(is_kind, ("colour", thing), False)
            self.tells(is_kind, ("named", thing, ((1, 2, 3),)), is_a_depth(thing))
            self.tells(is_kind, ("named", 8, thing), False)
            self.tells(is_kind, ("named", 8, (thing,)), False)
            self.tells(is_kind, ("named", 8, ((thing, 0, 0),)), is_a_byte(thing))


def is_a_depth(thing):
    return exactly(thing) in [exactly(depth) for depth in (1, 2, 4, 8)]


def is_a_byte(thing):
    return type(thing) is int and 0 <= thing < 256


class Pictures(Told):
    def test_all_kinds_one_pixel_one_row_one_column_the_greatest(self):
        for kind in all_kinds():
            for width, height in ((1, 1), (24, 1), (1, 24), (2, 3), (24, 24)):
                self.tells(is_picture, any_picture(kind, width, height), True)

    def test_all_sides(self):
        for width in range(1, 25):
            for height in range(1, 25):
                self.tells(is_picture, any_picture(("grey", 2), width, height), True)

    def test_by_name(self):
        self.assertIs(is_picture(thing=any_picture(("grey", 2), 2, 2)), True)
        self.assertIs(is_picture(thing=None), False)

    def test_the_least_and_the_greatest_pixels(self):
        for kind in all_kinds():
            for pixel in (least(kind), greatest(kind)):
                self.tells(is_picture, (kind, 2, 1, ((pixel, pixel),)), True)

    def test_sides_of_none_and_of_too_many(self):
        for kind in few_kinds():
            pixel = least(kind)
            self.tells(is_picture, (kind, 0, 1, ((),)), False)
            self.tells(is_picture, (kind, 1, 0, ()), False)
            self.tells(is_picture, (kind, 0, 0, ()), False)
            self.tells(is_picture, (kind, 25, 1, ((pixel,) * 25,)), False)
            self.tells(is_picture, (kind, 1, 25, ((pixel,),) * 25), False)
            self.tells(is_picture, (kind, 25, 25, ((pixel,) * 25,) * 25), False)
            self.tells(is_picture, (kind, 24, 24, ((pixel,) * 24,) * 24), True)

    def test_sides_that_are_no_numbers(self):
        for side in (True, False, None, "1", "", (1,), [1], {1: 1}, -1, 10 ** 59, -10 ** 59):
            self.tells(is_picture, (("grey", 1), side, 1, ((0,),)), False)
            self.tells(is_picture, (("grey", 1), 1, side, ((0,),)), False)

    def test_sides_that_are_not_those_of_the_rows(self):
        kind, width, height, rows = any_picture(("grey", 8), 3, 5)
        for wrong in (1, 2, 4, 5, 24):
            self.tells(is_picture, (kind, wrong, height, rows), False)
        for wrong in (1, 3, 4, 6, 24):
            self.tells(is_picture, (kind, width, wrong, rows), False)
        self.tells(is_picture, (kind, height, width, rows), False)

    def test_a_row_shorter_or_longer_more_or_fewer(self):
        for kind in few_kinds():
            kind, width, height, rows = any_picture(kind, 4, 3)
            for at in range(height):
                for row in (rows[at][1:], rows[at][:1], (), rows[at] + rows[at][:1], rows[at] * 2):
                    self.tells(is_picture, (kind, width, height, rows[:at] + (row,) + rows[at + 1:]), False)
                self.tells(is_picture, (kind, width, height, rows[:at] + rows[at + 1:]), False)
                self.tells(is_picture, (kind, width, height, rows[:at] + (rows[at],) + rows[at:]), False)
            self.tells(is_picture, (kind, width, height, ()), False)

    def test_rows_or_a_row_as_a_list(self):
        for kind in few_kinds():
            kind, width, height, rows = any_picture(kind, 2, 3)
            self.tells(is_picture, (kind, width, height, list(rows)), False)
            for at in range(height):
                self.tells(is_picture, (kind, width, height, rows[:at] + (list(rows[at]),) + rows[at + 1:]), False)

    def test_rows_or_a_row_as_what_is_no_row(self):
        for thing in (None, 0, 1, True, "", "ab", {}, {0: 0, 1: 1}, [], (None,)):
            self.tells(is_picture, (("grey", 1), 2, 2, thing), False)
            self.tells(is_picture, (("grey", 1), 2, 2, ((0, 1), thing)), False)
            self.tells(is_picture, (("grey", 1), 2, 2, (thing, (0, 1))), False)

    def test_a_pixel_that_is_none(self):
        for kind in all_kinds():
            top = greatest(kind)
            wrong = WRONG_COLOURS if kind == ("colour",) else (-1, top + 1, 256, 10 ** 59, (0, 0, 0))
            for pixel in wrong + (True, False, None, "0", "", [0], [0, 0, 0], {0: 0}, (0,), ()):
                for row in ((pixel, least(kind)), (least(kind), pixel)):
                    self.tells(is_picture, (kind, 2, 2, (row, (top, top))), False)
                    self.tells(is_picture, (kind, 2, 2, ((top, top), row)), False)

    def test_pixels_of_another_kind(self):
        self.tells(is_picture, (("colour",), 1, 1, ((0,),)), False)
        self.tells(is_picture, (("grey", 8), 1, 1, (((0, 0, 0),),)), False)
        self.tells(is_picture, (("named", 2, palette(3)), 1, 1, ((palette(3)[0],),)), False)
        self.tells(is_picture, (("named", 2, palette(3)), 1, 1, ((3,),)), False)
        self.tells(is_picture, (("named", 2, palette(4)), 1, 1, ((3,),)), True)

    def test_a_kind_that_is_none(self):
        for kind in (("grey", True), ("grey", 3), ("named", 8, ()), ["grey", 8], ("colour", 8), "colour", None, ()):
            self.tells(is_picture, (kind, 1, 1, ((0,),)), False)
            self.tells(is_picture, (kind, 1, 1, (((0, 0, 0),),)), False)

    def test_a_part_more_or_fewer_or_a_list(self):
        for kind in few_kinds():
            picture = any_picture(kind, 2, 2)
            for thing in (picture[:3], picture[1:], picture + (0,), picture + ((),), list(picture), (picture,), (kind,)):
                self.tells(is_picture, thing, False)
            self.tells(is_picture, dict(enumerate(picture)), False)
            self.tells(is_picture, picture[::-1], False)

    def test_whatever_thing(self):
        kind, width, height, rows = any_picture(("grey", 8), 1, 1)
        for thing in whatever():
            self.tells(is_picture, thing, False)
            self.tells(is_picture, (thing, width, height, rows), False)
            self.tells(is_picture, (kind, thing, height, rows), exactly(thing) == exactly(1))
            self.tells(is_picture, (kind, width, thing, rows), exactly(thing) == exactly(1))
            self.tells(is_picture, (kind, width, height, thing), exactly(thing) == exactly(((0,),)))
            self.tells(is_picture, (kind, width, height, (thing,)), thing == (0,) and exactly(thing) == exactly((0,)))
            self.tells(is_picture, (kind, width, height, ((thing,),)), is_a_byte(thing))

    def test_a_list_that_is_handed_in_stays(self):
        thing = [("grey", 8), 1, 1, [[0]]]
        before = copy.deepcopy(thing)
        is_picture(thing)
        is_kind(thing)
        self.assertEqual(thing, before)


class Steps(Case):
    def test_all_kinds(self):
        for kind in all_kinds():
            self.same(step_of(kind), 3 if kind == ("colour",) else 1)
            self.same(step_of(kind=kind), 3 if kind == ("colour",) else 1)
