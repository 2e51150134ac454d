"""Numbers and bytes as texts of 0 and 1: the interface of stage 6."""

import itertools
import random

from tests.samples import Case, any_bytes
from tornpictures.bits import bits_from, bits_of, bytes_from, number_of


class Numbers(Case):
    def test_by_hand(self):
        self.same(bits_of(0, 0), "")
        self.same(bits_of(0, 1), "0")
        self.same(bits_of(1, 1), "1")
        self.same(bits_of(6, 3), "110")
        self.same(bits_of(6, 9), "000000110")
        self.same(bits_of(511, 9), "111111111")
        self.same(bits_of(number=1, many=6), "000001")
        self.same(number_of(""), 0)
        self.same(number_of("0"), 0)
        self.same(number_of("1"), 1)
        self.same(number_of("110"), 6)
        self.same(number_of("000000110"), 6)
        self.same(number_of(text="100000000"), 256)

    def test_the_least_and_the_greatest(self):
        for many in range(61):
            self.same(bits_of(0, many), "0" * many)
            self.same(bits_of(2 ** many - 1, many), "1" * many)
            self.same(number_of("0" * many), 0)
            self.same(number_of("1" * many), 2 ** many - 1)
            if many > 0:
                self.same(bits_of(1, many), "0" * (many - 1) + "1")
                self.same(bits_of(2 ** (many - 1), many), "1" + "0" * (many - 1))
                self.same(number_of("1" + "0" * (many - 1)), 2 ** (many - 1))

    def test_all_small_ones(self):
        for many in range(10):
            texts = ["".join(signs) for signs in itertools.product("01", repeat=many)]
            for number, text in enumerate(texts):
                self.same(bits_of(number, many), text)
                self.same(number_of(text), number)

    def test_there_and_back(self):
        chance = random.Random(60)
        for many in range(61):
            for turn in range(10):
                number = chance.randrange(2 ** many)
                text = bits_of(number, many)
                self.same(len(text), many)
                self.same(number_of(text), number)
                self.same(text, bin(number + 2 ** many)[3:])


class Bytes(Case):
    def test_by_hand(self):
        self.same(bytes_from(""), [])
        self.same(bytes_from("0"), [0])
        self.same(bytes_from("1"), [128])
        self.same(bytes_from("11"), [192])
        self.same(bytes_from("0000000"), [0])
        self.same(bytes_from("1111111"), [254])
        self.same(bytes_from("00000001"), [1])
        self.same(bytes_from("11111111"), [255])
        self.same(bytes_from("111111110"), [255, 0])
        self.same(bytes_from("000000011"), [1, 128])
        self.same(bytes_from("0000000110000000"), [1, 128])
        self.same(bytes_from(text="0101"), [80])
        self.same(bits_from([]), "")
        self.same(bits_from([0]), "00000000")
        self.same(bits_from([1, 128]), "0000000110000000")
        self.same(bits_from([255, 0, 6]), "111111110000000000000110")
        self.same(bits_from(bytes_of=[80]), "01010000")

    def test_each_byte(self):
        for byte in range(256):
            self.same(bits_from([byte]), bits_of(byte, 8))
            self.same(bytes_from(bits_of(byte, 8)), [byte])

    def test_filled_up_to_whole_bytes(self):
        chance = random.Random(61)
        for many in range(50):
            text = "".join(chance.choice("01") for sign in range(many))
            told = bytes_from(text)
            self.same(len(told), -(-many // 8))
            self.same(bits_from(told), text + "0" * (8 * len(told) - many))

    def test_there_and_back(self):
        chance = random.Random(62)
        for many in (0, 1, 2, 3, 17, 2000, 6000):
            bytes_of = any_bytes(many, chance)
            text = bits_from(bytes_of)
            self.same(len(text), 8 * many)
            self.same(bytes_from(text), bytes_of)
        self.same(bytes_from("1" * 20000), [255] * 2500)

    def test_new_lists_each_time(self):
        for text in ("", "1", "111111110"):
            self.check_own(bytes_from, text)
        for bytes_of in ([], [1], [1, 2, 3]):
            self.check_own(bits_from, bytes_of)
