"""Pictures as texts: point 30."""

import itertools

from tests.samples import Case, all_kinds, any_picture, exactly, greatest, palette, whatever
from tornpictures.errors import NoText, PictureError
from tornpictures.picturetexts import read_picture, show_picture

GREY = (("grey", 4), 3, 2, ((0, 15, 7), (1, 2, 10)))
GREY_TEXT = "grey 4 3 2\n0 15 7\n1 2 10\n"
COLOUR = (("colour",), 2, 1, (((0, 1, 255), (16, 10, 171)),))
COLOUR_TEXT = "colour 2 1\n0001ff 100aab\n"
NAMED = (("named", 2, ((1, 2, 3), (255, 254, 253), (1, 2, 3))), 2, 2, ((0, 1), (2, 0)))
NAMED_TEXT = "named 2 2 2 010203 fffefd 010203\n0 1\n2 0\n"
BY_HAND = ((GREY, GREY_TEXT), (COLOUR, COLOUR_TEXT), (NAMED, NAMED_TEXT))


class Shown(Case):
    def test_by_hand(self):
        for picture, text in BY_HAND:
            self.same(show_picture(picture), text)
            self.same(show_picture(picture=picture), text)
            self.same(read_picture(text), picture)
            self.same(read_picture(text=text), picture)

    def test_there_and_back(self):
        for kind in all_kinds():
            for width, height in ((1, 1), (1, 24), (24, 1), (24, 24), (5, 3)):
                picture = any_picture(kind, width, height)
                text = show_picture(picture)
                self.same(read_picture(text), picture)
                self.assertEqual(text.count("\n"), height + 1)
                self.assertTrue(text.endswith("\n"))

    def test_words(self):
        for kind in all_kinds():
            picture = any_picture(kind, 7, 4)
            head, *rows = show_picture(picture)[:-1].split("\n")
            depth = [] if kind[0] == "colour" else [str(kind[1])]
            colours = [bytes(colour).hex() for colour in kind[2]] if kind[0] == "named" else []
            self.same(head.split(" "), [kind[0]] + depth + ["7", "4"] + colours)
            for row, text in zip(picture[3], rows):
                words = [bytes(pixel).hex() if kind[0] == "colour" else str(pixel) for pixel in row]
                self.same(text.split(" "), words)

    def test_palettes_of_one_and_of_as_many_as_can_be(self):
        for depth in (1, 2, 4, 8):
            for many in (1, 2 ** depth):
                picture = any_picture(("named", depth, palette(many)), 3, 3)
                self.same(read_picture(show_picture(picture)), picture)

    def test_greatest_pixels(self):
        for kind in all_kinds():
            picture = (kind, 2, 1, ((greatest(kind),) * 2,))
            self.same(read_picture(show_picture(picture)), picture)

    def test_handing(self):
        for picture, text in BY_HAND:
            self.check_own(show_picture, picture)
            self.check_own(read_picture, text)


class Refused(Case):
    def refused(self, thing, line):
        before = exactly(thing)
        with self.assertRaises(NoText, msg=before[:200]) as caught:
            read_picture(thing)
        self.same(caught.exception.line, line, before[:200])
        self.assertIsInstance(caught.exception, PictureError)
        self.assertEqual(exactly(thing), before)

    def wrong_head(self, head, behind="0 0\n0 0\n"):
        """That a first line is refused, whatever stands behind it."""
        for rest in (behind, "", "0\n", "0 0\n" * 9, "x\n"):
            self.refused(head + "\n" + rest, 0)

    def test_another_first_word(self):
        for word in ("", "gray", "Grey", "GREY", "greys", "gre", "color", "colours", "name", "named:", "-", "0", "2", "\t",
                     "grey\t2", "grey2"):
            self.wrong_head(f"{word} 2 2 2")
            self.wrong_head(f"{word} 2 2")
            self.wrong_head(word)
            self.wrong_head(f"{word} 2 2 2 000000")

    def test_a_number_that_is_none(self):
        wrong = ("", "02", "002", "00", "0002", "2000", "1000", "9999", "0x2", "two", "-2", "+2", "2.", "2,", "\u0662", "\xb2", "2\t",
                 "2_", "_2", "1e0")
        for word in wrong:
            self.wrong_head(f"grey {word} 2 2")
            self.wrong_head(f"grey 2 {word} 2")
            self.wrong_head(f"grey 2 2 {word}")
            self.wrong_head(f"colour {word} 2")
            self.wrong_head(f"colour 2 {word}")
            self.wrong_head(f"named {word} 2 2 000000")
            self.wrong_head(f"named 2 {word} 2 000000")
            self.wrong_head(f"named 2 2 {word} 000000")

    def test_a_number_beyond_its_bounds(self):
        for depth in (0, 3, 5, 6, 7, 9, 16, 32, 255, 999):
            self.wrong_head(f"grey {depth} 2 2")
            self.wrong_head(f"named {depth} 2 2 000000")
        for side in (0, 25, 26, 100, 255, 999):
            self.wrong_head(f"grey 2 {side} 2")
            self.wrong_head(f"grey 2 2 {side}")
            self.wrong_head(f"colour {side} 2")
            self.wrong_head(f"colour 2 {side}")
            self.wrong_head(f"named 2 {side} 2 000000")
            self.wrong_head(f"named 2 2 {side} 000000")

    def test_a_word_too_few_or_too_many_in_the_head(self):
        for head in ("grey", "grey 2", "grey 2 2", "grey 2 2 2 2", "grey 2 2 2 000000", "colour", "colour 2", "colour 2 2 2",
                     "colour 2 2 000000", "colour 8 2 2", "named", "named 2", "named 2 2", "named 2 2 2", "named 2 2 000000"):
            self.wrong_head(head)

    def test_blanks_in_the_head(self):
        for head in ("grey 2 2 2", "colour 2 2", "named 2 2 2 000000", "named 2 2 2 000000 000000"):
            self.wrong_head(" " + head)
            self.wrong_head(head + " ")
            for at, sign in enumerate(head):
                if sign == " ":
                    self.wrong_head(head[:at] + " " + head[at:])
                    self.wrong_head(head[:at] + "\t" + head[at + 1:])

    def test_colours_of_a_palette(self):
        for colour in ("", "00000", "0000000", "00000000", "0000", "00", "00000g", "00000A", "FFFFFF", "#00000", "0x0000", "0 0 0"):
            self.wrong_head(f"named 2 2 2 {colour}")
            self.wrong_head(f"named 2 2 2 000000 {colour}")
            self.wrong_head(f"named 2 2 2 {colour} 000000")
        for depth, most in ((1, 2), (2, 4), (4, 16), (8, 256)):
            self.wrong_head(f"named {depth} 2 2" + " 00aaff" * (most + 1))
            self.wrong_head(f"named {depth} 2 2" + " 00aaff" * (most + 9))
            text = f"named {depth} 1 1" + " 00aaff" * most + "\n0\n"
            self.same(read_picture(text), (("named", depth, ((0, 170, 255),) * most), 1, 1, ((0,),)))

    def row(self, head, right, wrong):
        """That a wrong row is refused with its line, in each of three rows."""
        for at in range(3):
            rows = [right] * 3
            rows[at] = wrong
            self.refused(head + "\n" + "".join(row + "\n" for row in rows), at + 1)
        self.assertIsNotNone(read_picture(head + "\n" + (right + "\n") * 3))

    def test_a_pixel_beyond_its_kind(self):
        for depth, many in ((1, 2), (2, 4), (4, 16), (8, 256)):
            for number in (many, many + 1, 256, 300, 999, 1000, 9999, 10 ** 30):
                if number >= many:
                    self.row(f"grey {depth} 2 3", f"0 {many - 1}", f"0 {number}")
                    self.row(f"grey {depth} 2 3", f"0 {many - 1}", f"{number} 0")
        for many in (1, 2, 3, 4):
            self.row("named 2 2 3" + " 000000" * many, f"0 {many - 1}", f"0 {many}")

    def test_a_pixel_that_is_no_number(self):
        for word in ("", "00", "01", "000", "0001", "a", "-0", "-1", "+1", "0x1", "1.", "000000", "\u0661", "\xb9", "1\t", "\r", "one", "_1"):
            self.row("grey 8 2 3", "1 255", f"1 {word}")
            self.row("grey 8 2 3", "1 255", f"{word} 1")
            self.row("named 1 2 3 000000 111111", "1 0", f"1 {word}")

    def test_a_pixel_that_is_no_colour(self):
        for word in ("", "0", "00000", "0000000", "00000000", "00000A", "00000g", "255", "ffffff\t", "0x0000", "FFFFFF"):
            self.row("colour 2 3", "000000 ffffff", f"000000 {word}")
            self.row("colour 2 3", "000000 ffffff", f"{word} 000000")

    def test_a_pixel_too_few_or_too_many(self):
        for wrong in ("", "1", "1 2 3", "1 2 ", " 1 2", "1  2", " ", "  ", "1 ", " 1"):
            self.row("grey 4 2 3", "1 2", wrong)
        for wrong in ("", "000000", "000000 000000 000000", "000000000000", "000000  000000"):
            self.row("colour 2 3", "000000 000000", wrong)

    def test_lines_lacking(self):
        for picture, text in BY_HAND + ((None, show_picture(any_picture(("grey", 1), 2, 24))),):
            rows = text[:-1].split("\n")
            for many in range(len(rows)):
                cut = "".join(row + "\n" for row in rows[:many])
                self.refused(cut, many)

    def test_a_last_line_without_a_line_end(self):
        for picture, text in BY_HAND:
            rows = text[:-1].split("\n")
            for many in range(1, len(rows) + 1):
                self.refused("\n".join(rows[:many]), many - 1)
            for more in ("x", " ", "0", rows[-1]):
                self.refused(text + more, len(rows))
                self.refused(text + "\n" + more, len(rows))

    def test_cut_at_each_sign(self):
        for picture, text in BY_HAND:
            for at in range(len(text)):
                self.refused(text[:at], text[:at].count("\n"))

    def test_a_line_more_than_wanted(self):
        for picture, text in BY_HAND:
            lines = text.count("\n")
            for more in ("\n", "\n\n", "0\n", text, " \n", text.split("\n")[-2] + "\n"):
                self.refused(text + more, lines)

    def test_the_first_line_that_cannot_be(self):
        self.refused("grey 4 2 3\n1 x\n1 x\n", 1)
        self.refused("grey 4 2 3\n1 1\n1 x", 2)
        self.refused("grey 4 2 3\n1 x\n1 1\n1 1\n1 1\n", 1)
        self.refused("gray 4 2 3\n1 x\n", 0)
        self.refused("\n" + GREY_TEXT, 0)
        self.refused(GREY_TEXT.replace("\n", "\r\n"), 0)

    def test_no_text(self):
        for thing in (None, True, 0, [], [GREY_TEXT], (GREY_TEXT,), list(GREY_TEXT), {}, {GREY_TEXT: 0}, GREY_TEXT.encode(), GREY):
            self.refused(thing, 0)
        for thing in whatever():
            self.refused(thing, 0)
        self.refused("", 0)

    def test_another_sign_anywhere(self):
        for picture, text in BY_HAND:
            for at, sign in itertools.product(range(len(text)), "x\t~"):
                self.refused(text[:at] + sign + text[at + 1:], text[:at].count("\n"))
