"""Chunks: point 19."""

import itertools
import random
import string

from tests.samples import Case, any_bytes, exactly, whatever
from tornpictures.chunks import check, chunk, chunk_at, is_chunk_name, is_small
from tornpictures.errors import Broken, PictureError

NAMES = ("Head", "Pale", "Body", "Last", "note", "aaaa", "zzzz", "AAAA", "ZZZZ", "aZAz", "zAZa", "Abcd", "mMnN")


def wanted_check(bytes_of):
    """By sums: a is 1 and all bytes, b the sum of all that a was."""
    sums = [1 + sum(bytes_of[:end]) for end in range(1, len(bytes_of) + 1)]
    a, b = (1 + sum(bytes_of)) % 997, sum(sums) % 997
    return [b // 256, b % 256, a // 256, a % 256]


def wanted_chunk(name, body):
    letters = list(name.encode("ascii"))
    return [len(body) // 256, len(body) % 256] + letters + body + wanted_check(letters + body)


def some_bodies():
    chance = random.Random(19)
    yield from ([], [0], [255], [0] * 255, [0] * 256, [0] * 257, [9] * 2999, [255] * 3000)
    for many in (1, 2, 3, 10, 1000, 3000):
        yield any_bytes(many, chance)


class Check(Case):
    def test_by_hand(self):
        self.same(check([]), [0, 0, 0, 1])
        self.same(check([0]), [0, 1, 0, 1])
        self.same(check([1]), [0, 2, 0, 2])
        self.same(check([255]), [1, 0, 1, 0])
        self.same(check([1, 2]), [0, 6, 0, 4])
        self.same(check([255, 255, 255, 255]), [2, 48, 0, 24])
        self.same(check([76, 97, 115, 116]), [3, 177, 1, 149])
        self.same(check(bytes_of=[0, 0]), [0, 2, 0, 1])

    def test_the_rest_by_997(self):
        # Three times 255 and 1 make 766: with 230 it is 996, with one more 0.
        for last, wanted in ((230, 996), (231, 0), (232, 1)):
            self.same(check([255, 255, 255, last])[2:], [wanted // 256, wanted % 256])
        # Over 0s a stays 1, so b counts them, from 997 on anew.
        self.same(check([0] * 996), [3, 228, 0, 1])
        self.same(check([0] * 997), [0, 0, 0, 1])

    def test_by_sums(self):
        for body in some_bodies():
            self.same(check(body[:400]), wanted_check(body[:400]))
        for byte in range(256):
            self.same(check([byte]), wanted_check([byte]))
            self.same(check([byte, 255 - byte]), wanted_check([byte, 255 - byte]))

    def test_one_byte_another_one(self):
        chance = random.Random(24)
        for many in (1, 2, 4, 9, 100):
            row = any_bytes(many, chance)
            right = check(row)
            for at in range(many):
                for byte in set(range(256)) - {row[at]} if many < 10 else {(row[at] + 1) % 256, (row[at] + 128) % 256}:
                    self.assertNotEqual(check(row[:at] + [byte] + row[at + 1:]), right)

    def test_two_unlike_neighbours_exchanged(self):
        chance = random.Random(25)
        for many in (2, 3, 9, 100):
            row = any_bytes(many, chance)
            for at in range(many - 1):
                other = row[:at] + [row[at + 1], row[at]] + row[at + 2:]
                self.assertEqual(check(other) == check(row), row[at] == row[at + 1])

    def test_handing(self):
        for row in ([], [1], [1, 2, 3] * 9):
            self.check_own(check, row)


class Names(Case):
    def tells(self, thing, wanted):
        before = exactly(thing)
        self.assertIs(is_chunk_name(thing), wanted, before[:200])
        self.assertEqual(exactly(thing), before)

    def test_four_letters(self):
        for name in NAMES:
            self.tells(name, True)
        for letter in string.ascii_letters:
            for at in range(4):
                self.tells("aBcD"[:at] + letter + "aBcD"[at + 1:], True)

    def test_more_and_fewer(self):
        for name in ("", "a", "ab", "abc", "abcde", "Heads", "abcdefgh", "a" * 20000, "Head\n", "Head ", " Head"):
            self.tells(name, False)

    def test_another_sign(self):
        for sign in sorted(set(string.printable) - set(string.ascii_letters)) + ["\n", "\r", "\x00", "\xe9", "\xdf", "\u0430"]:
            for at in range(4):
                self.tells("Head"[:at] + sign + "Head"[at + 1:], False)
            self.tells(sign * 4, False)

    def test_other_kinds(self):
        for thing in (list("Head"), tuple("Head"), dict.fromkeys("Head"), ["Head"], ("Head",), {"Head": 0}, b"Head", None, True,
                      4, 0, [72, 101, 97, 100], {}, (), []):
            self.tells(thing, False)

    def test_whatever_thing(self):
        for thing in whatever():
            self.tells(thing, thing == "grey")
        self.assertIs(is_chunk_name(thing="Head"), True)

    def test_small_ones(self):
        for letter in string.ascii_letters:
            for rest in ("abc", "ABC", "aBc"):
                self.assertIs(is_small(letter + rest), letter in string.ascii_lowercase)
        for name in ("Head", "Pale", "Body", "Last"):
            self.assertIs(is_small(name), False)
        self.assertIs(is_small(name="note"), True)


class Chunk(Case):
    def test_by_hand(self):
        self.same(chunk("Last", []), [0, 0, 76, 97, 115, 116, 3, 177, 1, 149])
        self.same(chunk("abcd", [7, 0]), [0, 2, 97, 98, 99, 100, 7, 0] + check([97, 98, 99, 100, 7, 0]))
        self.same(chunk(name="Zzzz", body=[1]), [0, 1, 90, 122, 122, 122, 1] + check([90, 122, 122, 122, 1]))
        self.same(chunk("Body", [5] * 3000)[:7], [11, 184, 66, 111, 100, 121, 5])
        self.same(chunk("Body", [5] * 256)[:2], [1, 0])

    def test_many(self):
        for name, body in itertools.product(NAMES, some_bodies()):
            if len(body) < 300 or name == "note":
                self.same(chunk(name, body), wanted_chunk(name, body))

    def test_handing(self):
        for body in ([], [1], [1, 2, 3] * 9):
            self.check_own(chunk, "Body", body)


class ChunkAt(Case):
    def test_by_hand(self):
        last = [0, 0, 76, 97, 115, 116, 3, 177, 1, 149]
        self.same(chunk_at(last, 0), ("Last", [], 10))
        self.same(chunk_at([9, 9] + last + [1], 2), ("Last", [], 12))
        self.same(chunk_at(bytes_of=last, at=0), ("Last", [], 10))

    def test_there_and_back(self):
        for name, body in itertools.product(NAMES, some_bodies()):
            bytes_of = chunk(name, body)
            self.same(chunk_at(bytes_of, 0), (name, body, len(body) + 10))

    def test_from_any_place(self):
        chance = random.Random(26)
        for ahead, behind in itertools.product((0, 1, 2, 9, 300), (0, 1, 20)):
            for body in ([], [4], any_bytes(50, chance)):
                bytes_of = any_bytes(ahead, chance) + chunk("noTe", body) + any_bytes(behind, chance)
                self.same(chunk_at(bytes_of, ahead), ("noTe", body, ahead + 10 + len(body)))

    def test_one_behind_the_other(self):
        parts = [("Head", [1, 2, 3, 4, 5, 0]), ("note", []), ("Body", list(range(200))), ("Last", [])]
        bytes_of = [byte for name, body in parts for byte in chunk(name, body)]
        at, told = 0, []
        while at < len(bytes_of):
            name, body, at = chunk_at(bytes_of, at)
            told.append((name, body))
        self.same(told, parts)

    def test_each_letter(self):
        for letter in string.ascii_letters:
            for name in (letter * 4, letter + "aBz", "ZaA" + letter):
                self.same(chunk_at(chunk(name, [3]), 0), (name, [3], 11))

    def test_handing(self):
        for body in ([], [1], [1, 2, 3] * 9):
            self.check_own(chunk_at, [5] + chunk("Body", body) + [6], 1)


class BrokenChunk(Case):
    def refused(self, bytes_of, at=0):
        before = exactly(bytes_of)
        with self.assertRaises(Broken) as caught:
            chunk_at(bytes_of, at)
        self.same(caught.exception.at, at)
        self.assertIsInstance(caught.exception, PictureError)
        self.assertEqual(exactly(bytes_of), before)

    def test_cut_at_each_place(self):
        for name, body in (("Last", []), ("note", [7]), ("Body", list(range(40)))):
            right = chunk(name, body)
            for cut, ahead in itertools.product(range(len(right)), (0, 1, 13)):
                self.refused([3] * ahead + right[:cut], ahead)

    def test_at_the_end(self):
        self.refused([])
        for right in (chunk("Last", []), chunk("note", [1, 2])):
            self.refused(right, len(right))
            self.refused(right + [0], len(right))
            self.refused(right + [0, 0], len(right))

    def test_cut_long_ones(self):
        right = chunk("Body", [1] * 3000)
        for cut in (0, 1, 2, 9, 10, 1500, 3005, 3006, 3009):
            self.refused(right[:cut])
            self.refused([0] + right[:cut], 1)

    def test_a_length_above_3000(self):
        for many in (3001, 3002, 4000):
            self.refused(wanted_chunk("Body", [0] * many))
            self.refused([1] + wanted_chunk("note", [0] * many), 1)
        self.same(chunk_at(wanted_chunk("Body", [0] * 3000), 0), ("Body", [0] * 3000, 3010))
        self.refused([255, 255] + chunk("Body", [])[2:])

    def test_another_length(self):
        right = chunk("Body", [1, 2, 3])
        for length in (0, 1, 2, 4, 5):
            self.refused([0, length] + right[2:] + [0] * 5)
        self.refused([1, 3] + right[2:] + [0] * 300)

    def test_a_check_that_is_not_right(self):
        for name, body in (("Last", []), ("note", [7]), ("Body", list(range(40)))):
            right = chunk(name, body)
            for at in range(len(right) - 4, len(right)):
                for more in (1, 2, 128, 255):
                    wrong = right[:at] + [(right[at] + more) % 256] + right[at + 1:]
                    self.refused(wrong)
                    self.refused([0, 0] + wrong + [0], 2)

    def test_the_check_is_the_rest_itself(self):
        # A number that is 997 more tells the same rest, but is another check.
        right = chunk("Last", [])
        self.assertEqual(right[-4:], [3, 177, 1, 149])
        self.refused(right[:-2] + [(405 + 997) // 256, (405 + 997) % 256])
        self.refused(right[:-4] + [(945 + 997) // 256, (945 + 997) % 256, 1, 149])
        self.refused(right[:-4] + [1, 149, 3, 177])

    def test_another_byte_in_the_name_or_the_body(self):
        for name, body in (("note", [7]), ("Body", list(range(40)))):
            right = chunk(name, body)
            for at, more in itertools.product(range(2, len(right) - 4), (1, 32, 128, 255)):
                self.refused(right[:at] + [(right[at] + more) % 256] + right[at + 1:])

    def test_neighbours_exchanged(self):
        right = chunk("Body", [1, 2, 3, 4])
        for at in range(2, len(right) - 5):
            self.refused(right[:at] + [right[at + 1], right[at]] + right[at + 2:])

    def test_a_name_that_is_none(self):
        for at, byte in itertools.product(range(4), (0, 13, 32, 48, 57, 64, 91, 94, 96, 123, 127, 128, 193, 225, 255)):
            letters = list(b"Body")
            letters[at] = byte
            for body in ([], [1, 2, 3]):
                checked = letters + body
                self.refused([0, len(body)] + checked + wanted_check(checked))
                self.refused([8] + [0, len(body)] + checked + wanted_check(checked) + [8], 1)
        for byte in (65, 90, 97, 122):
            checked = [byte] * 4
            self.same(chunk_at([0, 0] + checked + wanted_check(checked), 0)[0], bytes(checked).decode())
