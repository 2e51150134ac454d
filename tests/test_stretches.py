"""Sayings: points 12 and 13."""

import itertools
import random

from tests.samples import Case, any_bytes, byte_by_byte, exactly, whatever
from tornpictures.errors import NoSaying, PictureError
from tornpictures.stretches import said, unsaid


def said_again(bytes_of, far, many):
    """The bytes that a stretch tells behind these: the last ones, over and over again where they are fewer."""
    return (bytes_of[len(bytes_of) - far:] * many)[:many]


def wanted_saying(bytes_of):
    """The rule, word by word: the longest stretch first, the nearest first of those as long."""
    told, at = [], 0
    while at < len(bytes_of):
        found = ("byte", bytes_of[at])
        for many in range(3, min(34, len(bytes_of) - at) + 1):
            for far in range(min(64, at), 0, -1):
                if said_again(bytes_of[:at], far, many) == bytes_of[at:at + many]:
                    found = ("again", far, many)
        told.append(found)
        at += found[2] if found[0] == "again" else 1
    return told


def rows_of_bytes():
    """Rows in which much, little and nothing can be said again."""
    chance = random.Random(5)
    yield from ([], [0], [0, 0], [7] * 3, [7] * 4, [7] * 35, [7] * 36, [7] * 70, list(range(256)))
    for many, few in itertools.product((3, 10, 40, 130), (1, 2, 3, 9, 256)):
        yield [chance.randrange(few) for at in range(many)]
    for length in (3, 5, 34, 35, 63, 64, 65, 70):
        part = any_bytes(length, chance)
        yield part + part
        yield part + part[:3]
        yield part + [1, 2, 3, 4] + part[:20] + part


class Said(Case):
    def test_by_hand(self):
        self.same(said([]), [])
        self.same(said([9]), [("byte", 9)])
        self.same(said([1, 2, 3, 1, 2, 3]), byte_by_byte([1, 2, 3]) + [("again", 3, 3)])
        self.same(said([1, 2, 3, 1, 2, 3, 4]), byte_by_byte([1, 2, 3]) + [("again", 3, 3), ("byte", 4)])
        self.same(said([5, 5, 5, 5]), [("byte", 5), ("again", 1, 3)])
        self.same(said([1, 2, 1, 2, 1, 2, 1]), byte_by_byte([1, 2]) + [("again", 2, 5)])

    def test_all_alike(self):
        for byte in (0, 1, 255):
            self.same(said([byte] * 3), byte_by_byte([byte] * 3))
            self.same(said([byte] * 35), [("byte", byte), ("again", 1, 34)])
            self.same(said([byte] * 36), [("byte", byte), ("again", 1, 34), ("byte", byte)])
            self.same(said([byte] * 37), [("byte", byte), ("again", 1, 34), ("byte", byte), ("byte", byte)])
            self.same(said([byte] * 38), [("byte", byte), ("again", 1, 34), ("again", 1, 3)])
            self.same(said([byte] * 2000), [("byte", byte)] + [("again", 1, 34)] * 58 + [("again", 1, 27)])

    def test_no_stretch(self):
        self.same(said(list(range(256))), byte_by_byte(range(256)))
        self.same(said([1, 2, 3, 4]), byte_by_byte([1, 2, 3, 4]))

    def test_stretches_of_2_are_not_said_again(self):
        self.same(said([1, 2, 3, 1, 2]), byte_by_byte([1, 2, 3, 1, 2]))
        self.same(said([1, 2, 9, 1, 2, 8, 1, 2, 7]), byte_by_byte([1, 2, 9, 1, 2, 8, 1, 2, 7]))
        self.same(said([4, 4, 4]), byte_by_byte([4, 4, 4]))

    def test_the_longest_stretch(self):
        # Three bytes could be said again from near, four from farther away.
        row = [1, 2, 3, 4, 9, 1, 2, 3, 8, 1, 2, 3, 4]
        wanted = byte_by_byte([1, 2, 3, 4, 9]) + [("again", 5, 3), ("byte", 8), ("again", 9, 4)]
        self.same(said(row), wanted)
        row = [1, 2, 3, 8, 1, 2, 3, 4, 9, 1, 2, 3, 4]
        wanted = byte_by_byte([1, 2, 3, 8]) + [("again", 4, 3), ("byte", 4), ("byte", 9), ("again", 5, 4)]
        self.same(said(row), wanted)

    def test_of_several_the_nearest(self):
        row = [1, 2, 3, 9, 1, 2, 3, 8, 1, 2, 3]
        wanted = byte_by_byte([1, 2, 3, 9]) + [("again", 4, 3), ("byte", 8), ("again", 4, 3)]
        self.same(said(row), wanted)
        self.same(said([0] * 5 + [1] + [0] * 4), [("byte", 0), ("again", 1, 4), ("byte", 1), ("again", 5, 4)])
        self.same(said([6] * 80)[2:], [("again", 1, 34), ("again", 1, 11)])

    def test_at_most_64_back(self):
        for between in range(58, 66):
            row = [200, 201, 202] + list(range(between)) + [200, 201, 202]
            far = between + 3
            wanted = byte_by_byte(row[:-3]) + ([("again", far, 3)] if far <= 64 else byte_by_byte(row[-3:]))
            self.same(said(row), wanted)

    def test_at_most_34_at_once(self):
        for many in range(30, 45):
            part = [100 + at for at in range(many)]
            told = said(part + part)
            self.same(told[many], ("again", many, min(many, 34)))
            if many <= 34:
                self.same(len(told), many + 1)
        self.same(said([1, 2, 3] * 30)[3:], [("again", 3, 34), ("again", 3, 34), ("again", 3, 19)])

    def test_from_the_left_on(self):
        # The rule takes the longest one at the first place where one can be said, though more would be said later.
        row = [1, 2, 3, 7, 2, 3, 4, 5, 7, 1, 2, 3, 4, 5]
        wanted = byte_by_byte([1, 2, 3, 7, 2, 3, 4, 5, 7]) + [("again", 9, 3), ("byte", 4), ("byte", 5)]
        self.same(said(row), wanted)

    def test_by_the_rule(self):
        for row in rows_of_bytes():
            self.same(said(row), wanted_saying(row))

    def test_all_rows_of_few_bytes(self):
        for many in range(9):
            for row in itertools.product((0, 1), repeat=many):
                self.same(said(list(row)), wanted_saying(list(row)))

    def test_2000_bytes(self):
        chance = random.Random(6)
        for few in (2, 5, 256):
            row = [chance.randrange(few) for at in range(2000)]
            self.same(unsaid(said(row)), row)

    def test_handing(self):
        self.same(said(bytes_of=[4, 4, 4, 4]), [("byte", 4), ("again", 1, 3)])
        for row in ([], [1], [2] * 40, [1, 2, 3] * 5):
            self.check_own(said, row)


class Unsaid(Case):
    def test_by_hand(self):
        self.same(unsaid([]), [])
        self.same(unsaid([("byte", 0)]), [0])
        self.same(unsaid([("byte", 255), ("byte", 0), ("byte", 255)]), [255, 0, 255])
        self.same(unsaid(byte_by_byte([1, 2, 3]) + [("again", 3, 3)]), [1, 2, 3, 1, 2, 3])
        self.same(unsaid(byte_by_byte([1, 2, 3, 4]) + [("again", 4, 3), ("byte", 9)]), [1, 2, 3, 4, 1, 2, 3, 9])

    def test_what_was_just_said_again(self):
        self.same(unsaid([("byte", 7), ("again", 1, 34)]), [7] * 35)
        self.same(unsaid(byte_by_byte([1, 2]) + [("again", 2, 5)]), [1, 2, 1, 2, 1, 2, 1])
        self.same(unsaid(byte_by_byte([1, 2, 3]) + [("again", 2, 4), ("again", 5, 7)]),
                  [1, 2, 3, 2, 3, 2, 3, 3, 2, 3, 2, 3, 3, 2])

    def test_every_far_and_many(self):
        chance = random.Random(8)
        row = any_bytes(70, chance)
        for far, many in itertools.product(range(1, 65), range(3, 35)):
            self.same(unsaid(byte_by_byte(row) + [("again", far, many)]), row + said_again(row, far, many))

    def test_just_from_the_beginning(self):
        for far in range(1, 65):
            row = list(range(far))
            self.same(unsaid(byte_by_byte(row) + [("again", far, 3)]), row + said_again(row, far, 3))

    def test_leads_back_to_what_was_said(self):
        for row in rows_of_bytes():
            self.same(unsaid(said(row)), row)
            self.same(unsaid(byte_by_byte(row)), row)

    def test_as_much_as_can_be_handed_in(self):
        self.same(unsaid(byte_by_byte([3] * 2000)), [3] * 2000)
        self.same(unsaid([("byte", 3)] + [("again", 1, 34)] * 176), [3] * 5985)
        self.same(unsaid([("byte", 3)] + [("again", 1, 3)] * 1999), [3] * 5998)

    def test_handing(self):
        self.same(unsaid(saying=[("byte", 4)]), [4])
        for saying in ([], [("byte", 1)], [("byte", 1), ("again", 1, 5), ("byte", 2)]):
            self.check_own(unsaid, saying)


class NoSuchSaying(Case):
    def refused(self, at, saying):
        before = exactly(saying)
        with self.assertRaises(NoSaying) as caught:
            unsaid(saying)
        self.same(caught.exception.at, at, before[:200])
        self.assertIsInstance(caught.exception, PictureError)
        self.assertEqual(exactly(saying), before)

    def everywhere(self, wrong):
        """Refused at its number: alone, first, in the middle, last, and where another wrong one follows."""
        right = byte_by_byte(range(70))
        self.refused(0, [wrong])
        self.refused(0, [wrong, wrong])
        self.refused(0, [wrong, *right])
        self.refused(35, [*right[:35], wrong, *right[35:]])
        self.refused(70, [*right, wrong])
        self.refused(70, [*right, wrong, ("byte", 256), ("again", 99, 3)])
        self.refused(71, [*right, ("again", 64, 34), wrong, None])

    def test_no_tuple(self):
        for wrong in (None, True, 0, 5, "", "byte", [], {}, ["byte", 1], ["again", 1, 3], {"byte": 1}, "again"):
            self.everywhere(wrong)

    def test_another_word(self):
        for word in ("", "Byte", "bytes", "again", "byt", "byte ", 0, 1, None, True, (), [], {}, ("byte",)):
            self.everywhere((word, 1))
        for word in ("", "Again", "byte", "agains", "aga", 1, None, False, (), [], {}, ["again"]):
            self.everywhere((word, 1, 3))

    def test_a_part_more_or_fewer(self):
        for wrong in ((), ("byte",), ("again",), ("again", 1), ("byte", 1, 3), ("byte", 1, 1), ("byte", 1, None),
                      ("again", 1, 3, 3), ("again", 1, 3, None), (1,), (1, 3), ("byte", "byte"), ("again", "again", 3)):
            self.everywhere(wrong)

    def test_no_byte(self):
        for byte in (-1, 256, 10 ** 59, -10 ** 59, True, False, None, "", "1", "a", (), (1,), [], [1], {}, {1: 1}):
            self.everywhere(("byte", byte))

    def test_no_far(self):
        for far in (0, -1, 65, 66, 10 ** 59, -10 ** 59, True, False, None, "", "1", (1,), [1], {1: 1}):
            self.everywhere(("again", far, 3))

    def test_no_many(self):
        for many in (2, 1, 0, -1, 35, 36, 10 ** 59, -10 ** 59, True, False, None, "", "3", (3,), [3], {3: 3}):
            self.everywhere(("again", 1, many))

    def test_ahead_of_the_beginning(self):
        for behind in range(64):
            for far in {behind + 1, behind + 2, 64} & set(range(1, 65)):
                for many in (3, 34):
                    if far > behind:
                        self.refused(behind, byte_by_byte(range(behind)) + [("again", far, many), ("byte", 1)])
        self.refused(0, [("again", 1, 3)])
        self.refused(0, [("again", 64, 34)])
        self.refused(2, [("byte", 1), ("again", 1, 3), ("again", 5, 3)])
        self.same(unsaid([("byte", 1), ("again", 1, 3), ("again", 4, 3)]), [1] * 7)

    def test_the_first_one_for_either_reason(self):
        self.refused(1, [("byte", 1), ("again", 2, 3), ("byte", 256)])
        self.refused(1, [("byte", 1), ("byte", 256), ("again", 64, 3)])
        self.refused(1, [("byte", 1), None, ("again", 64, 3)])

    def test_no_list(self):
        for thing in (None, True, False, 0, 7, "", "byte", (), (("byte", 1),), {}, {0: ("byte", 1)}, ("byte", 1)):
            self.refused(0, thing)

    def test_whatever_thing(self):
        for thing in whatever():
            if thing == []:
                self.same(unsaid(thing), [])
            else:
                self.refused(0, thing)
                self.refused(0, [thing, ("byte", 1)])
                self.refused(1, [("byte", 1), thing])
        for thing in whatever():
            byte = isinstance(thing, int) and not isinstance(thing, bool) and 0 <= thing <= 255
            if not byte:
                self.refused(0, [("byte", thing)])
