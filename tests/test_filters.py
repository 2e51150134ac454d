"""Filters: point 6."""

import random

from tests.samples import Case, any_bytes
from tornpictures.filters import filtered, undone

EDGES = (0, 1, 2, 3, 5, 126, 127, 128, 129, 253, 254, 255)


def wanted_foretold(number, left, above, corner):
    if number == 4:
        aim = left + above - corner
        order = sorted((abs(aim - side), place, side) for place, side in enumerate((left, above, corner)))
        return order[0][2]
    return (0, left, above, (left + above) // 2)[number]


def wanted_filtered(number, row, above, step):
    """The filtered row, with 0s laid ahead of both rows for what isn't there."""
    wide, high = [0] * step + row, [0] * step + above
    return [
        (wide[at + step] - wanted_foretold(number, wide[at], high[at + step], high[at])) % 256 for at in range(len(row))
    ]


def rows_above(row, chance):
    yield [0] * len(row)
    yield list(row)
    yield any_bytes(len(row), chance)
    yield [255] * len(row)


class Filtering(Case):
    def test_by_hand(self):
        row, above = [10, 20, 5, 255], [7, 9, 200, 254]
        self.same(filtered(0, row, above), [10, 20, 5, 255])
        self.same(filtered(1, row, above), [10, 10, 241, 250])
        self.same(filtered(2, row, above), [3, 11, 61, 1])
        self.same(filtered(3, row, above), [7, 11, 151, 126])
        self.same(filtered(4, row, above), [3, 10, 61, 250])
        self.same(filtered(1, row, above, step=2), [10, 20, 251, 235])
        self.same(filtered(3, row, above, step=3), [7, 16, 161, 123])
        self.same(filtered(4, row, above, step=3), [3, 11, 61, 1])

    def test_rows_of_0_to_72_bytes_by_all_steps(self):
        chance = random.Random(6)
        for many in range(73):
            row = any_bytes(many, chance)
            for above in rows_above(row, chance):
                for step in (1, 3, 24, many + 1, many + 7):
                    for number in range(5):
                        wanted = wanted_filtered(number, row, above, step)
                        self.same(filtered(number, row, above, step=step), wanted)
                        self.same(undone(number, wanted, above, step=step), row)

    def test_all_steps(self):
        chance = random.Random(7)
        row, above = any_bytes(40, chance), any_bytes(40, chance)
        for step in range(1, 25):
            for number in range(5):
                wanted = wanted_filtered(number, row, above, step)
                self.same(filtered(number, row, above, step=step), wanted)
                self.same(undone(number, wanted, above, step=step), row)

    def test_each_leads_the_other_back(self):
        chance = random.Random(8)
        for turn in range(60):
            row, above = any_bytes(turn, chance), any_bytes(turn, chance)
            for step in (1, 2, 3, 24):
                for number in range(5):
                    self.same(undone(number, filtered(number, row, above, step=step), above, step=step), row)
                    self.same(filtered(number, undone(number, row, above, step=step), above, step=step), row)

    def test_undone_by_hand(self):
        self.same(undone(0, [3, 4], [1, 1]), [3, 4])
        self.same(undone(1, [200, 100, 1], [9, 9, 9]), [200, 44, 45])
        self.same(undone(2, [200, 100], [100, 1]), [44, 101])
        self.same(undone(3, [1, 1], [3, 4]), [2, 4])
        self.same(undone(4, [1, 1, 1], [5, 5, 9]), [6, 7, 10])

    def test_the_step_left_out_is_1(self):
        chance = random.Random(9)
        row, above = any_bytes(30, chance), any_bytes(30, chance)
        for number in range(5):
            self.same(filtered(number, row, above), wanted_filtered(number, row, above, 1))
            self.same(filtered(number, row, above), filtered(number, row, above, step=1))
            self.same(undone(number, wanted_filtered(number, row, above, 1), above), row)

    def test_an_empty_row(self):
        for number in range(5):
            for step in (1, 3, 24):
                self.same(filtered(number, [], [], step=step), [])
                self.same(undone(number, [], [], step=step), [])


class Neighbours(Case):
    """The second byte of two, for all neighbours of some values."""

    def check(self, number, left, up, corner):
        foretold = wanted_foretold(number, left, up, corner)
        for byte in (0, 100, 255):
            told = filtered(number, [left, byte], [corner, up])
            self.same(told[1], (byte - foretold) % 256)
            self.same(undone(number, told, [corner, up]), [left, byte])

    def test_all_filters_at_the_edges(self):
        for left in EDGES:
            for up in EDGES:
                for corner in EDGES:
                    for number in range(5):
                        self.check(number, left, up, corner)

    def test_filter_3_with_odd_sums(self):
        self.same(filtered(3, [0, 9], [0, 3]), [0, 8])
        self.same(filtered(3, [254, 0], [0, 255])[1], 256 - 254)
        self.same(filtered(3, [255, 0], [0, 255])[1], 1)
        self.same(undone(3, [1, 0], [0, 2]), [1, 1])

    def test_filter_4_with_all_ties(self):
        told = {
            (7, 7, 7): 7,  # all three as near
            (8, 11, 10): 8,  # left and corner as near: left
            (12, 9, 10): 12,
            (11, 8, 10): 8,  # above and corner as near: above
            (9, 12, 10): 12,
            (9, 9, 5): 9,  # left and above as near, and alike
            (12, 8, 10): 10,  # left and above as near, corner nearer
            (8, 12, 10): 10,
            (10, 3, 10): 3,  # above as told, left and corner alike
            (3, 10, 10): 3,
        }
        for (left, up, corner), wanted in told.items():
            with self.subTest(left=left, up=up, corner=corner):
                self.same(filtered(4, [left, 200], [corner, up])[1], 200 - wanted)
                self.same(undone(4, [(left - corner) % 256, 200 - wanted], [corner, up]), [left, 200])

    def test_filter_4_for_all_small_neighbours(self):
        for left in range(9):
            for up in range(9):
                for corner in range(9):
                    self.check(4, left, up, corner)

    def test_the_first_bytes_have_no_left_and_no_corner(self):
        for number, wanted in enumerate(([50, 60], [50, 60], [10, 10], [30, 35], [10, 10])):
            self.same(filtered(number, [50, 60], [40, 50], step=2), wanted)
            self.same(undone(number, wanted, [40, 50], step=2), [50, 60])


class Handing(Case):
    def test_what_is_handed_in_stays_and_the_answer_is_the_askers_own(self):
        chance = random.Random(10)
        for many in (0, 1, 9):
            row, above = any_bytes(many, chance), any_bytes(many, chance)
            for number in range(5):
                for step in (1, 3, 24):
                    self.check_own(filtered, number, row, above, step=step)
                    self.check_own(undone, number, row, above, step=step)

    def test_the_row_may_be_the_row_above(self):
        row = [5, 9, 200]
        for number in range(5):
            self.same(filtered(number, row, row), wanted_filtered(number, row, row, 1))
            self.same(undone(number, row, row), undone(number, row, list(row)))
            self.same(row, [5, 9, 200])

    def test_by_names(self):
        self.same(filtered(number=1, row=[1, 2, 5], above=[0, 0, 0], step=2), [1, 2, 4])
        self.same(undone(number=1, row=[1, 2, 4], above=[0, 0, 0], step=2), [1, 2, 5])
        self.same(undone(above=[1], row=[1], number=2), [2])

    def test_the_step_by_its_name_alone(self):
        for deed in (filtered, undone):
            with self.assertRaises(TypeError):
                deed(0, [1], [1], 1)
