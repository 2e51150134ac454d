"""Bytes as texts: point 30."""

import random
import string

from tests.samples import Case, any_bytes, exactly, whatever
from tornpictures.bytetexts import read_bytes, show_bytes
from tornpictures.errors import NoText, PictureError


class Shown(Case):
    def test_by_hand(self):
        self.same(show_bytes([]), "")
        self.same(show_bytes([0]), "00")
        self.same(show_bytes([255, 16, 1, 10, 160]), "ff10010aa0")
        self.same(show_bytes([84, 80, 13, 10]), "54500d0a")
        self.same(show_bytes(bytes_of=[171]), "ab")
        self.same(read_bytes("ff10010aa0"), [255, 16, 1, 10, 160])
        self.same(read_bytes(""), [])
        self.same(read_bytes(text="00"), [0])

    def test_each_byte(self):
        for byte in range(256):
            self.same(show_bytes([byte]), bytes([byte]).hex())
            self.same(read_bytes(bytes([byte]).hex()), [byte])
        self.same(show_bytes(list(range(256))), bytes(range(256)).hex())

    def test_there_and_back(self):
        chance = random.Random(30)
        for many in (0, 1, 2, 3, 50, 6000):
            row = any_bytes(many, chance)
            self.same(show_bytes(row), bytes(row).hex())
            self.same(read_bytes(show_bytes(row)), row)

    def test_handing(self):
        for row in ([], [7], [1, 2, 3]):
            self.check_own(show_bytes, row)
            self.check_own(read_bytes, show_bytes(row))


class Refused(Case):
    def refused(self, thing):
        before = exactly(thing)
        with self.assertRaises(NoText) as caught:
            read_bytes(thing)
        self.same(caught.exception.line, 0)
        self.assertIsInstance(caught.exception, PictureError)
        self.assertEqual(exactly(thing), before)

    def test_odd_many_signs(self):
        for text in ("0", "000", "abc", "00" * 50 + "f", "f" * 9999):
            self.refused(text)

    def test_other_signs(self):
        for sign in sorted(set(string.printable) - set("0123456789abcdef")) + ["\xe9", "\u0660", "\uff11", "\xb2"]:
            for text in (sign * 2, "0" + sign, sign + "0", "00" + sign + "0", "0" + sign + "00"):
                self.refused(text)

    def test_great_letters_and_blanks(self):
        for text in ("AB", "aB", "0A", "FF", "00 00", " 00", "00 ", "0 ", " 0", "00\n", "\n\n", "0x00", "-1", "+1", "--", "-",
                     "0_", "1_1_"):
            self.refused(text)

    def test_no_text(self):
        for thing in (None, True, 0, 16, [], [0], ["00"], ("0", "0"), ("00",), {}, {"00": 0}, b"00"):
            self.refused(thing)
        for thing in whatever():
            if thing != "":
                self.refused(thing)
