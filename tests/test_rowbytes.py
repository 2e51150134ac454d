"""Rows of pixels as bytes: point 5."""

import random

from tests.samples import Case, all_kinds, any_bytes, any_row, few_kinds, greatest, least, palette, whatever
from tornpictures.errors import NoRow
from tornpictures.rowbytes import row_bytes, row_of


def wanted_bytes(kind, row):
    """The bytes by texts of bits, as the document tells them."""
    if kind[0] == "colour":
        return [byte for pixel in row for byte in pixel]
    text = "".join(format(pixel, f"0{kind[1]}b") for pixel in row)
    text += "0" * (-len(text) % 8)
    return [int(text[at:at + 8], 2) for at in range(0, len(text), 8)]


def rows_of(kind, many):
    """The least, the greatest, those that change from one to the other, and any row."""
    chance = random.Random(f"{kind} {many}")
    low, high = least(kind), greatest(kind)
    yield (low,) * many
    yield (high,) * many
    yield ((low, high) * many)[:many]
    yield (high,) + (low,) * (many - 1)
    yield (low,) * (many - 1) + (high,)
    yield any_row(kind, many, chance)


class Writing(Case):
    def test_rows_written_by_hand(self):
        self.same(row_bytes(("grey", 1), (1,)), [128])
        self.same(row_bytes(("grey", 1), (1, 0, 1, 1, 0, 0, 0, 1)), [0b10110001])
        self.same(row_bytes(("grey", 1), (0, 0, 0, 0, 0, 0, 0, 0, 1)), [0, 128])
        self.same(row_bytes(("grey", 2), (3, 0, 1, 2, 2)), [0b11000110, 0b10000000])
        self.same(row_bytes(("grey", 4), (1, 15, 9)), [0x1F, 0x90])
        self.same(row_bytes(("grey", 8), (0, 255, 7)), [0, 255, 7])
        self.same(row_bytes(("colour",), ((1, 2, 3), (255, 0, 254))), [1, 2, 3, 255, 0, 254])
        self.same(row_bytes(("named", 2, palette(3)), (2, 1, 0, 2)), [0b10010010])
        self.same(row_bytes(("named", 8, palette(3)), (2, 1)), [2, 1])
        self.same(row_bytes(("named", 4, palette(1)), (0, 0, 0)), [0, 0])

    def test_every_kind_and_depth_1_to_24_pixels(self):
        for kind in all_kinds():
            for many in range(1, 25):
                for row in rows_of(kind, many):
                    self.same(row_bytes(kind, row), wanted_bytes(kind, row))

    def test_the_told_list_is_the_askers_own(self):
        for kind in few_kinds():
            self.check_own(row_bytes, kind, any_row(kind, 11, random.Random(3)))

    def test_by_names(self):
        self.same(row_bytes(kind=("grey", 4), row=(1, 2)), [0x12])
        self.same(row_bytes(("grey", 4), row=(1, 2)), [0x12])


class Reading(Case):
    def test_rows_read_by_hand(self):
        self.same(row_of(("grey", 1), 3, [0b10100000]), (1, 0, 1))
        self.same(row_of(("grey", 2), 5, [0b11000110, 0b10000000]), (3, 0, 1, 2, 2))
        self.same(row_of(("grey", 4), 3, [0x1F, 0x90]), (1, 15, 9))
        self.same(row_of(("grey", 8), 2, [0, 255]), (0, 255))
        self.same(row_of(("colour",), 2, [1, 2, 3, 255, 0, 254]), ((1, 2, 3), (255, 0, 254)))
        self.same(row_of(("named", 8, palette(3)), 2, [2, 1]), (2, 1))

    def test_a_row_written_and_read_is_the_same(self):
        for kind in all_kinds():
            for many in range(1, 25):
                for row in rows_of(kind, many):
                    self.same(row_of(kind, many, row_bytes(kind, row)), row)

    def test_bytes_that_are_read_are_written_as_they_were(self):
        chance = random.Random(5)
        for kind in all_kinds():
            for many in range(1, 25):
                length = len(wanted_bytes(kind, (least(kind),) * many))
                for given in ([0] * length, [255] * length, any_bytes(length, chance), any_bytes(length, chance)):
                    self.read_or_refused(kind, many, given)

    def test_every_byte_of_a_short_row(self):
        for kind in all_kinds():
            for many in (1, 2, 3, 5, 8):
                length = len(wanted_bytes(kind, (least(kind),) * many))
                for byte in range(256):
                    self.read_or_refused(kind, many, [0] * (length - 1) + [byte])

    def read_or_refused(self, kind, many, given):
        """Just what some row is written as is read, to that row."""
        if kind[0] == "colour":
            row = tuple(tuple(given[at:at + 3]) for at in range(0, len(given), 3))
        else:
            text = "".join(format(byte, "08b") for byte in given)
            row = tuple(int(text[at * kind[1]:(at + 1) * kind[1]], 2) for at in range(many))
        fits = kind[0] == "colour" or max(row) <= greatest(kind)
        if fits and wanted_bytes(kind, row) == given:
            self.same(row_of(kind, many, given), row)
            self.same(row_bytes(kind, row_of(kind, many, given)), given)
        else:
            with self.assertRaises(NoRow):
                row_of(kind, many, given)

    def test_nothing_is_changed_and_the_answer_stays(self):
        for kind in few_kinds():
            self.check_own(row_of, kind, 11, wanted_bytes(kind, any_row(kind, 11, random.Random(3))))

    def test_by_names(self):
        self.same(row_of(kind=("grey", 4), many=2, bytes_of=[0x12]), (1, 2))
        self.same(row_of(("grey", 4), 2, bytes_of=[0x12]), (1, 2))


class Refusing(Case):
    def refused(self, kind, many, given):
        before = repr(given)
        with self.assertRaises(NoRow, msg=f"{kind} {many} {before[:100]}"):
            row_of(kind, many, given)
        self.assertEqual(repr(given), before)

    def test_too_many_bytes_too_few_none(self):
        for kind in all_kinds():
            for many in range(1, 25):
                given = wanted_bytes(kind, (least(kind),) * many)
                self.refused(kind, many, given + [0])
                self.refused(kind, many, [0] + given)
                self.refused(kind, many, given * 2)
                self.refused(kind, many, given[:-1])
                self.refused(kind, many, [])

    def test_a_rest_bit_that_is_not_0(self):
        for kind in all_kinds():
            for many in range(1, 25):
                given = wanted_bytes(kind, (least(kind),) * many)
                rest = 0 if kind[0] == "colour" else len(given) * 8 - many * kind[1]
                for bit in range(rest):
                    self.refused(kind, many, given[:-1] + [given[-1] + (1 << bit)])

    def test_a_number_that_the_palette_does_not_have(self):
        for kind in all_kinds():
            if kind[0] == "named":
                for number in range(len(kind[2]), 2 ** kind[1]):
                    for many, at in ((1, 0), (9, 0), (9, 4), (9, 8)):
                        row = (0,) * at + (number,) + (0,) * (many - at - 1)
                        self.refused(kind, many, wanted_bytes(("grey", kind[1]), row))

    def test_a_thing_that_is_no_byte(self):
        for kind in all_kinds():
            for many in (1, 9, 24):
                given = wanted_bytes(kind, (least(kind),) * many)
                for at in (0, len(given) // 2, len(given) - 1):
                    for thing in (-1, 256, 10 ** 59, -10 ** 59, True, False, "0", "", None, (), (0,), [], [0], {}):
                        self.refused(kind, many, given[:at] + [thing] + given[at + 1:])

    def test_what_is_no_list(self):
        for kind in few_kinds():
            for many in (1, 2, 24):
                given = wanted_bytes(kind, (least(kind),) * many)
                for thing in (tuple(given), dict(enumerate(given)), "0" * len(given), {byte: 0 for byte in given}):
                    self.refused(kind, many, thing)

    def test_whatever_thing(self):
        for kind in few_kinds():
            given = wanted_bytes(kind, (least(kind),) * 12)
            for thing in whatever():
                self.refused(kind, 12, thing)
                self.refused(kind, 12, (given, thing))
                if type(thing) is not int:
                    self.refused(kind, 12, [thing] * len(given))
                    self.refused(kind, 12, given[:-1] + [thing])
