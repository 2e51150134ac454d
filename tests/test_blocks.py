"""Blocks: points 17 and 18."""

import itertools
import random

from tests.samples import Case, any_bytes, byte_by_byte, exactly, whatever
from tornpictures.bits import bits_of, bytes_from
from tornpictures.blocks import block, packed, plain, unpacked
from tornpictures.codes import codes, is_full
from tornpictures.counts import lengths
from tornpictures.errors import NoBlock, PictureError
from tornpictures.stretches import said, unsaid

# Full lengths with all that a few sayings need: 5 is coded as 00, 9 as 01, 256 as 10, 257 as 11.
FEW = [(5, 2), (9, 2), (256, 2), (257, 2)]


def joined(text):
    return text.replace(" ", "")


def head_of(full):
    """How many signs there are, and each with its length."""
    return bits_of(len(full), 9) + "".join(bits_of(sign, 9) + bits_of(length, 6) for sign, length in full)


def body_of(saying, full):
    """The parts of the saying, one behind the other, without an end."""
    told = ""
    for part in saying:
        if part[0] == "byte":
            told += codes(full)[part[1]]
        else:
            told += codes(full)[256] + bits_of(part[1] - 1, 6) + bits_of(part[2] - 3, 5)
    return told


def block_of(full, saying):
    """The packed block of a saying by any full lengths."""
    return [1] + bytes_from(head_of(full) + body_of(saying, full) + codes(full)[257])


def wanted_packed(bytes_of):
    saying = said(bytes_of)
    signs = [part[1] if part[0] == "byte" else 256 for part in saying] + [257]
    return block_of(lengths([(sign, signs.count(sign)) for sign in sorted(set(signs))]), saying)


def rows_of_bytes():
    chance = random.Random(17)
    yield from ([], [0], [255], [0, 0], [7] * 3, [7] * 4, [7] * 100, [0] * 2000, [1, 2, 3] * 50, list(range(256)))
    yield list(range(256)) * 2
    for many, few in itertools.product((1, 5, 30, 100, 400), (1, 2, 4, 20, 256)):
        yield [chance.randrange(few) for at in range(many)]
    for few in (3, 256):
        yield [chance.randrange(few) for at in range(2000)]
    part = any_bytes(60, chance)
    yield part + part + [1] + part


class Plain(Case):
    def test_a_0_and_the_bytes(self):
        self.same(plain([]), [0])
        self.same(plain([0]), [0, 0])
        self.same(plain([3, 4, 255]), [0, 3, 4, 255])
        self.same(plain(bytes_of=[9]), [0, 9])
        for row in rows_of_bytes():
            self.same(plain(row), [0] + row)
            self.same(unpacked(plain(row)), row)

    def test_handing(self):
        for row in ([], [1], [1] * 30):
            self.check_own(plain, row)


class Packed(Case):
    def test_no_bytes(self):
        # One sign, 257, of length 1, and its code.
        self.same(packed([]), [1] + bytes_from(joined("000000001  100000001 000001  0")))
        self.same(packed([]), [1, 0, 192, 65, 0])

    def test_one_byte(self):
        self.same(packed([9]), [1] + bytes_from(joined("000000010  000001001 000001  100000001 000001  0 1")))
        self.same(packed([255]), [1] + bytes_from(joined("000000010  011111111 000001  100000001 000001  0 1")))

    def test_bytes_alike(self):
        # 7 once, 256 three times, 257 once: 256 is coded as 0, 7 as 10, 257 as 11.
        text = joined(
            "000000011  000000111 000010  100000000 000001  100000001 000010"
            "  10  0 000000 11111  0 000000 11111  0 000000 11100  11"
        )
        self.same(packed([7] * 100), [1] + bytes_from(text))
        self.same(packed([7] * 100), [1, 1, 129, 194, 128, 3, 1, 10, 1, 240, 31, 1, 204])

    def test_stretches_from_far(self):
        # Each sign once: eight groups of two, then four of four, are joined by their least signs.
        row = [1, 2, 3, 4, 5, 6, 1, 2, 3]
        head = "000001000" + "".join(bits_of(sign, 9) + "000011" for sign in (1, 2, 3, 4, 5, 6, 256, 257))
        text = joined("000 001 010 011 100 101  110 000101 00000  111")
        self.same(packed(row), [1] + bytes_from(head + text))

    def test_as_the_document_lays_them(self):
        for row in rows_of_bytes():
            self.same(packed(row), wanted_packed(row))

    def test_there_and_back(self):
        for row in rows_of_bytes():
            self.same(unpacked(packed(row)), row)

    def test_handing(self):
        self.same(packed(bytes_of=[]), [1, 0, 192, 65, 0])
        for row in ([], [1], [1] * 30, [1, 2, 3] * 4):
            self.check_own(packed, row)


class Block(Case):
    def test_the_shorter_one(self):
        sorts = set()
        for row in rows_of_bytes():
            told = block(row)
            shorter = len(wanted_packed(row)) < len(row) + 1
            sorts.add(shorter)
            self.same(told, wanted_packed(row) if shorter else [0] + row)
            self.assertLessEqual(len(told), len(row) + 1)
            self.same(unpacked(told), row)
        self.assertEqual(sorts, {True, False})

    def test_plain_where_they_are_as_long_packed_where_it_is_one_shorter(self):
        seen = {0: 0, 1: 0}
        chance = random.Random(21)
        for many in range(60):
            rows = [[chance.randrange(few) for at in range(many)] for few in (1, 2, 2, 2, 3, 3)]
            for row in (*rows, [7, 8] * (many // 2), any_bytes(3, chance) * (many // 3)):
                less = len(plain(row)) - len(packed(row))
                self.same(block(row), packed(row) if less > 0 else plain(row))
                if less in seen:
                    seen[less] += 1
        self.assertGreater(seen[0], 2)
        self.assertGreater(seen[1], 2)

    def test_by_hand(self):
        self.same(block([]), [0])
        self.same(block([9]), [0, 9])
        self.same(block(bytes_of=[7] * 100), packed([7] * 100))
        self.same(block([0] * 2000)[0], 1)
        self.same(block(list(range(256)))[0], 0)

    def test_handing(self):
        for row in ([], [1], [1] * 30, [1, 2, 3] * 4):
            self.check_own(block, row)


class Unpacked(Case):
    def test_other_sayings(self):
        for saying in ([], byte_by_byte([5]), byte_by_byte([5, 9, 9]), byte_by_byte([5] * 50),
                       [("byte", 5), ("again", 1, 3)], [("byte", 5), ("again", 1, 34), ("byte", 9), ("again", 36, 3)],
                       [("byte", 5), ("byte", 5), ("byte", 5), ("byte", 5), ("again", 4, 4), ("again", 3, 3)],
                       byte_by_byte([5, 9] * 32) + [("again", 64, 34), ("again", 64, 34), ("byte", 5)]):
            self.same(unpacked(block_of(FEW, saying)), unsaid(saying))

    def test_by_hand(self):
        text = joined("000000100  000000101 000010  000001001 000010  100000000 000010  100000001 000010"
                      "  00 01 10 000001 00001 11")
        self.same(unpacked([1] + bytes_from(text)), [5, 9, 5, 9, 5, 9])
        self.same(unpacked(thing=[0, 3, 4]), [3, 4])
        self.same(unpacked([0]), [])
        self.same(unpacked([0, 1]), [1])
        self.same(unpacked([1, 0, 192, 65, 0]), [])

    def test_every_far_and_many(self):
        start = byte_by_byte([5, 9, 9, 5] * 16)
        for far, many in itertools.product((1, 2, 31, 32, 33, 63, 64), range(3, 35)):
            saying = start + [("again", far, many)]
            self.same(unpacked(block_of(FEW, saying)), unsaid(saying))

    def test_other_full_lengths(self):
        saying = byte_by_byte([5, 9, 9]) + [("again", 2, 9), ("byte", 5)]
        for lengths_of in itertools.permutations((1, 2, 3, 3)):
            full = list(zip((5, 9, 256, 257), lengths_of))
            self.same(unpacked(block_of(full, saying)), unsaid(saying))

    def test_lengths_up_to_60(self):
        for order in (1, -1):
            signs = list(range(0, 59)) + [256, 257]
            told = [min(at + 1, 60) for at in range(61)][::order]
            full = list(zip(signs, told))
            saying = byte_by_byte([0, 58, 30]) + [("again", 3, 6), ("byte", 58), ("byte", 1)]
            self.same(unpacked(block_of(full, saying)), unsaid(saying))

    def test_signs_that_are_not_used(self):
        full = [(sign, 8) for sign in range(2, 256)] + [(256, 8), (257, 8)]
        self.assertIs(is_full(full), True)
        self.same(unpacked(block_of(full, byte_by_byte([2, 3]))), [2, 3])
        full = [(sign, 8) for sign in range(254)] + [(254, 9), (255, 9), (256, 9), (257, 9)]
        self.same(unpacked(block_of(full, [])), [])
        self.same(unpacked(block_of(full, byte_by_byte([254, 255, 0]))), [254, 255, 0])
        self.same(unpacked(block_of(FEW, [])), [])
        self.same(unpacked(block_of([(0, 1), (257, 1)], [])), [])

    def test_without_a_sign_for_stretches(self):
        self.same(unpacked(block_of([(5, 1), (257, 1)], byte_by_byte([5] * 9))), [5] * 9)

    def test_up_to_7_bits_left(self):
        left = set()
        for many in range(8):
            full = [(5, 1), (257, 1)]
            text = head_of(full) + "0" * many + "1"
            left.add(-len(text) % 8)
            self.same(unpacked([1] + bytes_from(text)), [5] * many)
        self.assertEqual(left, set(range(8)))

    def test_2000_bytes(self):
        row = any_bytes(2000, random.Random(22))
        self.same(unpacked([0] + row), row)
        self.same(unpacked(packed(row)), row)
        saying = [("byte", 5)] + [("again", 1, 34)] * 58 + [("again", 1, 27)]
        self.same(unpacked(block_of(FEW, saying)), [5] * 2000)
        self.same(unpacked(block_of(FEW, byte_by_byte([5, 9] * 1000))), [5, 9] * 1000)

    def test_handing(self):
        for thing in ([0], [0, 1, 2], packed([]), packed([3] * 40), block_of(FEW, byte_by_byte([5, 9]))):
            self.check_own(unpacked, thing)


class NoSuchBlock(Case):
    def refused(self, thing):
        before = exactly(thing)
        with self.assertRaises(NoBlock, msg=before[:300]) as caught:
            unpacked(thing)
        self.assertIsInstance(caught.exception, PictureError)
        self.assertEqual(exactly(thing), before)

    def of_text(self, text):
        self.refused([1] + bytes_from(text))

    def test_no_bytes(self):
        self.refused([])
        self.refused([1])

    def test_no_list_of_bytes(self):
        for right in ([0], [0, 3], packed([]), packed([7] * 50)):
            for wrong in (tuple(right), str(right), dict(enumerate(right)), [right], (right,), None, {0: right}):
                self.refused(wrong)
            for at, wrong in itertools.product(range(len(right)), (-1, 256, True, False, None, "", "0", [0], (0,), 10 ** 59)):
                self.refused(right[:at] + [wrong] + right[at + 1:])
            self.refused(right + [256])
            self.refused(right + [None])

    def test_whatever_thing(self):
        for thing in whatever():
            self.refused(thing)

    def test_another_first_byte(self):
        for first in range(2, 256):
            self.refused([first])
            self.refused([first, 1, 2])
            self.refused([first] + packed([])[1:])

    def test_signs_that_do_not_rise(self):
        end = "11"
        for signs in ((9, 5, 256, 257), (5, 9, 257, 256), (5, 5, 256, 257), (5, 9, 257, 257), (257, 5, 9, 256)):
            self.of_text(head_of([(sign, 2) for sign in signs]) + end)
        self.same(unpacked([1] + bytes_from(head_of([(sign, 2) for sign in (5, 9, 256, 257)]) + end)), [])

    def test_a_sign_above_257(self):
        for sign in (258, 259, 300, 511):
            full = [(5, 2), (256, 2), (257, 2), (sign, 2)]
            self.assertIs(is_full(full), True)
            self.refused(block_of(full, []))
            self.refused(block_of(full, byte_by_byte([5])))
            self.of_text(head_of([(sign, 1)]) + "0")
        self.refused(block_of([(257, 1), (258, 1)], []))

    def test_lengths_that_are_not_full(self):
        for told in ((2, 2, 2, 3), (2, 2, 2, 1), (1, 2, 3, 4), (1, 1, 1, 1), (0, 2, 2, 2), (2, 2, 2, 0), (1, 2, 3, 63), (1, 1, 61, 61),
                     (1, 2, 2, 2), (0, 0, 0, 0), (60, 60, 60, 60)):
            head = head_of(list(zip((5, 9, 256, 257), told)))
            for rest in ("", "00000000", "11111111", "11", "0", "1"):
                self.of_text(head + rest)

    def test_one_sign_of_another_length(self):
        self.same(unpacked([1] + bytes_from(head_of([(257, 1)]) + "0")), [])
        for length in (0, 2, 3, 60, 61, 63):
            for rest in ("", "0", "00", "0" * 60):
                self.of_text(head_of([(257, length)]) + rest)

    def test_no_signs_at_all(self):
        for rest in ("", "0", "0000000", "11", "0" * 50):
            self.of_text("000000000" + rest)

    def test_more_signs_than_there_can_be(self):
        for many in (259, 301, 511):
            full = [(sign, 9) for sign in range(many)]
            self.of_text(head_of(full) + "0" * 50)
        self.of_text("111111111")

    def test_a_code_that_is_none(self):
        self.of_text(head_of([(257, 1)]) + "1")
        self.of_text(head_of([(257, 1)]) + "10")
        self.of_text(head_of([(5, 1)]) + "1")

    def test_no_sign_for_the_end(self):
        self.of_text(head_of([(5, 1)]) + "0")
        self.of_text(head_of([(5, 1)]) + "0" * 100)
        self.of_text(head_of([(5, 1), (9, 1)]) + "01" * 20)
        self.of_text(head_of([(5, 1), (256, 1)]) + "0" + ("1" + "0" * 11) * 20)

    def test_a_stretch_that_goes_ahead_of_the_beginning(self):
        for behind in range(64):
            start = byte_by_byte([5] * behind)
            for far in {behind + 1, 64} & set(range(behind + 1, 65)):
                self.refused(block_of(FEW, start + [("again", far, 3)]))
                self.refused(block_of(FEW, start + [("again", far, 34), ("byte", 5)]))
            if behind > 0:
                self.same(unpacked(block_of(FEW, start + [("again", behind, 3)])), [5] * (behind + 3))

    def test_bits_lacking(self):
        blocks = [packed([]), packed([9]), packed([7] * 100), block_of(FEW, byte_by_byte([5, 9]) + [("again", 2, 9)] * 9)]
        for right in blocks:
            for cut in range(len(right)):
                self.refused(right[:cut])

    def test_bits_lacking_in_a_stretch(self):
        # The text ends with the byte within how far, and within how many.
        for many in range(16):
            text = head_of(FEW) + "00" * many + "10" + "0" * 11
            for cut in range(len(text) - 11, len(text)):
                if cut % 8 == 0:
                    self.of_text(text[:cut])
        texts = [head_of(FEW) + "00" * many + "10" for many in range(16)]
        self.assertEqual({len(text) % 8 for text in texts}, {1, 3, 5, 7})

    def test_eight_bits_left_or_more(self):
        for right in (packed([]), packed([9]), packed([7] * 100), block_of(FEW, byte_by_byte([5, 9]))):
            for more in ([0], [0, 0], [128], [1], [255], [0] * 40):
                self.refused(right + more)

    def test_eight_bits_left_just(self):
        for many in range(16):
            text = head_of([(5, 1), (257, 1)]) + "0" * many + "1"
            full = bytes_from(text)
            self.same(unpacked([1] + full), [5] * many)
            self.refused([1] + full + [0])
            if len(text) % 8 == 0:
                self.refused([1] + bytes_from(text + "00000000"))

    def test_a_bit_left_that_is_not_0(self):
        for many in range(8):
            text = head_of([(5, 1), (257, 1)]) + "0" * many + "1"
            for bit in range(-len(text) % 8):
                self.of_text(text + "0" * bit + "1")

    def test_more_than_2000_bytes(self):
        for many in (2001, 2002, 3000, 5999):
            self.refused([0] + [7] * many)
        row = any_bytes(2001, random.Random(23))
        self.refused(plain(row))
        self.refused(packed(row))
        for last in (28, 29, 34):
            self.refused(block_of(FEW, [("byte", 5)] + [("again", 1, 34)] * 58 + [("again", 1, last)]))
        self.refused(block_of(FEW, byte_by_byte([5] * 2001)))
        self.refused(block_of(FEW, byte_by_byte([5] * 2000) + [("again", 1, 3)]))
        self.refused(block_of(FEW, [("byte", 5)] + [("again", 1, 34)] * 3000))
