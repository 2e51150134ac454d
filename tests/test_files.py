"""Files as a whole: points 20 and 21, and what point 3 says of them."""

import itertools
import random

from tests.filemaking import (
    GREY, MARK, NAMED, any_parts, body_with, broken_files, head_bytes, heads, laid, other_writers, plain_body, plain_parts,
    raw,
)
from tests.samples import Case, all_kinds, any_bytes, any_picture, exactly, few_kinds, greatest, least, palette, whatever
from tests.test_sections import joined
from tornpictures.blocks import block, unpacked
from tornpictures.chunks import chunk_at
from tornpictures.errors import Broken, PictureError
from tornpictures.files import bound, levels_of, read, written
from tornpictures.lines import line_rows
from tornpictures.sections import section_bytes

DOT = (("grey", 8), 1, 1, ((7,),))
PAIR = (("named", 1, ((1, 2, 3), (4, 5, 6))), 2, 2, ((0, 1), (1, 1)))
COLOURS = (("colour",), 1, 2, (((9, 8, 7),), ((9, 8, 8),)))
LAST = [0, 0, 76, 97, 115, 116, 3, 177, 1, 149]


def wanted_parts(picture, levels, each, notes):
    """The chunks of a written file, told anew."""
    total = len(line_rows(picture, levels))
    told = heads(picture, levels) + [raw(name, body) for name, body in notes]
    for first in range(0, total, each):
        many = min(each, total - first)
        told.append(body_with(first, many, block(section_bytes(picture, levels=levels, first=first, many=many))))
    return told + [raw("Last", [])]


def chunks_of(bytes_of):
    """The chunks as tuples (name, body)."""
    told, at = [], 4
    while at < len(bytes_of):
        name, body, at = chunk_at(bytes_of, at)
        told.append((name, body))
    return told


def some_notes(many, chance):
    names = ("note", "text", "aAAA", "zzzz", "abcD")
    return tuple((names[at % 5], any_bytes(chance.randrange(0, 100), chance)) for at in range(many))


def flat(kind, width, height, pixel):
    return (kind, width, height, ((pixel,) * width,) * height)


class Written(Case):
    def test_one_dot_by_hand(self):
        head = [0, 6, 72, 101, 97, 100, 0, 8, 1, 1, 0, 0]
        body = [0, 6, 66, 111, 100, 121, 0, 0, 1, 0, 0, 7]
        file = written(DOT)
        self.same(file[:4], [84, 80, 13, 10])
        self.same(file[4:16], head)
        self.same(file[20:32], body)
        self.same(file[36:], LAST)
        self.same(chunks_of(file), [("Head", [0, 8, 1, 1, 0, 0]), ("Body", [0, 0, 1, 0, 0, 7]), ("Last", [])])
        self.same(file, laid([raw("Head", [0, 8, 1, 1, 0, 0]), raw("Body", [0, 0, 1, 0, 0, 7]), LAST]))

    def test_a_named_one_by_hand(self):
        file = written(PAIR, levels=1, each=1, notes=(("note", [5]), ("aBcd", [])))
        self.same(chunks_of(file), [
            ("Head", [2, 1, 2, 2, 1, 0]),
            ("Pale", [1, 2, 3, 4, 5, 6]),
            ("note", [5]),
            ("aBcd", []),
            ("Body", [0, 0, 1, 0, 0, 0]),
            ("Body", [0, 1, 1, 0, 0, 128]),
            ("Body", [0, 2, 1, 0, 0, 192]),
            ("Last", []),
        ])

    def test_colour_by_hand(self):
        file = written(COLOURS, levels=3)
        self.same(chunks_of(file), [
            ("Head", [1, 8, 1, 2, 3, 0]), ("Body", [0, 0, 2, 0, 0, 9, 8, 7, 0, 9, 8, 8]), ("Last", []),
        ])
        self.same(chunks_of(written(COLOURS)), [
            ("Head", [1, 8, 1, 2, 0, 0]), ("Body", [0, 0, 2, 0, 0, 9, 8, 7, 2, 0, 0, 1]), ("Last", []),
        ])

    def test_a_packed_block_by_hand(self):
        file = written(flat(("grey", 8), 24, 24, 0), each=40)
        self.same([name for name, body in chunks_of(file)], ["Head", "Body", "Last"])
        body = chunks_of(file)[1][1]
        self.same(body[:4], [0, 0, 24, 1])
        self.same(unpacked(body[3:]), [0] * 600)

    def test_all_kinds_and_levels(self):
        for kind, levels in itertools.product(all_kinds(), range(4)):
            for width, height in ((1, 1), (5, 3), (9, 10)):
                picture = any_picture(kind, width, height)
                for each in (1, 3, 8, 40):
                    file = written(picture, levels=levels, each=each)
                    self.same(file, laid(wanted_parts(picture, levels, each, ())))
                    self.same(read(file), picture)
                    self.same(levels_of(file), levels)

    def test_sections_of_1_to_40_lines(self):
        for picture, levels in ((any_picture(("grey", 1), 24, 24), 3), (any_picture(("grey", 2), 2, 24), 0)):
            total = len(line_rows(picture, levels))
            for each in range(1, 41):
                file = written(picture, levels=levels, each=each)
                bodies = [body for name, body in chunks_of(file) if name == "Body"]
                self.same([body[0] * 256 + body[1] for body in bodies], list(range(0, total, each)))
                self.same([body[2] for body in bodies[:-1]], [each] * (len(bodies) - 1))
                self.same(bodies[-1][2], total - each * (len(bodies) - 1))
                self.same(file, laid(wanted_parts(picture, levels, each, ())))
                self.same(read(file), picture)

    def test_the_greatest_pictures(self):
        for kind in few_kinds() + [("named", 8, palette(256))]:
            for levels, each in ((0, 40), (3, 40), (3, 8)):
                picture = any_picture(kind, 24, 24)
                file = written(picture, levels=levels, each=each)
                self.same(file, laid(wanted_parts(picture, levels, each, ())))
                self.same(read(file), picture)
                self.assertLessEqual(len(file), 6000)

    def test_notes(self):
        chance = random.Random(20)
        for picture, many in itertools.product((DOT, GREY, NAMED), range(11)):
            notes = some_notes(many, chance)
            for handed in (notes, list(notes)):
                file = written(picture, levels=1, each=2, notes=handed)
                self.same(file, laid(wanted_parts(picture, 1, 2, notes)))
                self.same(read(file), picture)
        long = (("long", [3] * 1000),)
        self.same(written(DOT, notes=long), laid(wanted_parts(DOT, 0, 8, long)))
        alike = (("note", [1]), ("note", [1]))
        self.same([name for name, body in chunks_of(written(DOT, notes=alike))], ["Head", "note", "note", "Body", "Last"])

    def test_pale_of_named_alone(self):
        for kind in all_kinds():
            names = [name for name, body in chunks_of(written(any_picture(kind, 2, 2)))]
            self.same(names, ["Head", "Pale", "Body", "Last"] if kind[0] == "named" else ["Head", "Body", "Last"])

    def test_defaults(self):
        picture = any_picture(("grey", 2), 9, 20)
        right = laid(wanted_parts(picture, 0, 8, ()))
        self.same(written(picture), right)
        self.same(written(picture=picture, levels=0, each=8, notes=()), right)
        self.same(written(picture, each=8), right)
        self.same(written(picture, notes=[]), right)
        self.assertNotEqual(written(picture, levels=1), right)
        self.assertNotEqual(written(picture, each=7), right)
        for given in ((picture, 0), (picture, 0, 8, ())):
            with self.assertRaises(TypeError):
                written(*given)
            with self.assertRaises(TypeError):
                bound(*given)

    def test_handing(self):
        for picture in (DOT, GREY, NAMED):
            self.check_own(written, picture)
            self.check_own(written, picture, levels=2, each=3, notes=(("note", [1, 2]), ("text", [])))
            self.check_own(written, picture, levels=2, each=3, notes=[("note", [1, 2])])
            self.check_own(read, written(picture))
            self.check_own(levels_of, written(picture))
            self.check_own(bound, picture, levels=1, each=2, notes=[("note", [1, 2])])


class Read(Case):
    def test_by_names(self):
        file = written(GREY, levels=2)
        self.same(read(thing=file), GREY)
        self.same(levels_of(thing=file), 2)

    def test_other_writers(self):
        for picture, levels, parts in other_writers(21, 120):
            self.same(read(laid(parts)), picture)
            self.same(levels_of(laid(parts)), levels)

    def test_sections_of_more_than_40_lines(self):
        picture = any_picture(("colour",), 24, 24)
        parts = plain_parts(picture, 3, 45)
        self.assertEqual(len(parts), 3)
        self.assertEqual(parts[1][8], 45)
        self.same(read(laid(parts)), picture)
        for many in (41, 44):
            rest = plain_body(picture, 3, many, 45 - many)
            self.same(read(laid(parts[:1] + [plain_body(picture, 3, 0, many), rest] + parts[2:])), picture)

    def test_each_filter(self):
        for number, picture in itertools.product(range(5), (GREY, NAMED, any_picture(("colour",), 3, 5))):
            total = len(line_rows(picture, 1))
            parts = heads(picture, 1) + [plain_body(picture, 1, 0, total, number), raw("Last", [])]
            self.same(read(laid(parts)), picture)

    def test_small_chunks_anywhere_behind_head_and_ahead_of_last(self):
        for picture in (GREY, NAMED):
            parts = plain_parts(picture, 1, 2)
            for at in range(1, len(parts)):
                for small in (raw("note", []), raw("hEAD", [1, 2, 3]), raw("zZZZ", [0] * 3000)):
                    file = laid(parts[:at] + [small, small][:1 if len(small) > 3000 else 2] + parts[at:])
                    self.same(read(file), picture)
                    self.same(levels_of(file), 1)

    def test_small_chunks_that_look_like_great_ones(self):
        small = [raw("head", head_bytes(GREY, 0)), raw("body", [0, 0, 1, 0]), raw("last", []), raw("pale", [1, 2, 3])]
        for picture in (GREY, NAMED):
            parts = plain_parts(picture, 0, 3)
            self.same(read(laid(parts[:1] + small + parts[1:])), picture)

    def test_a_chunk_of_the_longest_body(self):
        parts = plain_parts(GREY, 0, 6)
        self.same(read(laid(parts[:1] + [raw("long", [9] * 3000)] + parts[1:])), GREY)


class Refused(Case):
    def refused(self, thing, at, why=None):
        before = exactly(thing)
        for deed in (read, levels_of):
            with self.assertRaises(Broken, msg=why) as caught:
                deed(thing)
            self.same(caught.exception.at, at, why)
            self.assertIsInstance(caught.exception, PictureError)
        self.assertEqual(exactly(thing), before)

    def test_each_reason_with_its_place(self):
        reasons = set()
        for why, bytes_of, at, told in broken_files():
            with self.subTest(why):
                self.refused(bytes_of, at, why)
            reasons.add(why)
        self.assertGreater(len(reasons), 40)

    def test_cut_at_each_byte(self):
        file = written(NAMED, levels=1, each=2, notes=(("note", [1, 2, 3]),))
        at, begins = 4, []
        for name, body in chunks_of(file):
            begins.append(at)
            at += 10 + len(body)
        for many in range(len(file)):
            # Where all chunks are whole, so where the next one would begin, it is the end.
            self.refused(file[:many], max([begin for begin in begins if begin <= many], default=0))

    def test_what_is_no_list_of_bytes(self):
        right = written(DOT)
        for thing in (tuple(right), right[:-1] + [256], right[:-1] + [-1], right[:-1] + [None], right + [True], bytes(right),
                      "TP\r\n", {at: byte for at, byte in enumerate(right)}, [right], right[:5] + [False] + right[6:]):
            self.refused(thing, 0)
        for thing in whatever():
            self.refused(thing, 0)

    def test_one_byte_another_one(self):
        # A byte of a length may make another chunk; all others make another check, or another mark.
        file = written(PAIR, levels=1, each=1)
        at, begin = {}, 4
        for name, body in chunks_of(file):
            for place in range(begin, begin + 10 + len(body)):
                at[place] = begin
            begin += 10 + len(body)
        for place, byte in itertools.product(range(len(file)), (1, 32, 128, 255)):
            other = list(file)
            other[place] = (other[place] + byte) % 256
            self.refused(other, at.get(place, 0))

    def test_the_first_one_that_cannot_be(self):
        parts = plain_parts(GREY, 0, 2)
        bad = parts[1][:-1] + [(parts[1][-1] + 1) % 256]
        self.refused(laid(parts[:1] + [bad, bad, bad]), 20)
        self.refused(laid(parts[:2] + [bad, bad, bad]), 20 + len(parts[1]))

    def test_bytes_behind_last_of_a_file_twice(self):
        file = written(GREY)
        self.refused(file + file, len(file))
        self.refused(file + [84], len(file))


class Bound(Case):
    def test_by_hand(self):
        # The mark, Head, a Body of a section of 2 bytes, Last.
        self.same(bound(DOT), 4 + 16 + (10 + 3 + 1 + 2) + 10)
        # The mark, Head, Pale, three Bodies of sections of 2 bytes, two notes, Last.
        told = bound(PAIR, levels=1, each=1, notes=(("note", [5, 6, 7]), ("text", [])))
        self.same(told, 4 + 16 + 16 + 3 * (10 + 3 + 1 + 2) + 13 + 10 + 10)
        # Two lines of four bytes, in one Body or in two.
        self.same(bound(COLOURS), 4 + 16 + (10 + 3 + 1 + 8) + 10)
        self.same(bound(COLOURS, each=1), 4 + 16 + 2 * (10 + 3 + 1 + 4) + 10)
        # Twenty lines of three bytes, the filter's among them, by eight lines each.
        picture = any_picture(("grey", 2), 8, 20)
        self.same(bound(picture), 4 + 16 + 3 * 14 + 60 + 10)

    def test_defaults(self):
        picture = any_picture(("grey", 2), 8, 20)
        self.same(bound(picture=picture, levels=0, each=8, notes=()), bound(picture))
        self.same(bound(picture, notes=[]), bound(picture))
        self.assertNotEqual(bound(picture, levels=1), bound(picture))
        self.assertNotEqual(bound(picture, each=6), bound(picture))
        # By eight lines, and no others, these are two Bodies and three.
        self.same(bound(any_picture(("grey", 2), 8, 16)), 4 + 16 + 2 * 14 + 48 + 10)
        self.same(bound(any_picture(("grey", 2), 8, 17)), 4 + 16 + 3 * 14 + 51 + 10)

    def test_blocks_count_as_plain(self):
        for kind, levels, each in itertools.product(few_kinds(), range(4), (1, 7, 40)):
            for picture in (any_picture(kind, 7, 11), flat(kind, 24, 24, least(kind))):
                total = len(line_rows(picture, levels))
                sections = [
                    section_bytes(picture, levels=levels, first=first, many=min(each, total - first))
                    for first in range(0, total, each)
                ]
                notes = (("note", [0] * 30),)
                chunks = [6] + [4 + len(section) for section in sections] + [30, 0]
                if kind[0] == "named":
                    chunks.append(3 * len(kind[2]))
                self.same(bound(picture, levels=levels, each=each, notes=notes), 4 + sum(10 + many for many in chunks))

    def test_no_written_file_is_longer(self):
        chance = random.Random(22)
        shorter = 0
        for kind, levels in itertools.product(all_kinds(), range(4)):
            for picture in (any_picture(kind, 9, 7), flat(kind, 12, 24, greatest(kind))):
                each, notes = chance.randrange(1, 41), some_notes(chance.randrange(11), chance)
                file = written(picture, levels=levels, each=each, notes=notes)
                most = bound(picture, levels=levels, each=each, notes=notes)
                self.assertLessEqual(len(file), most)
                shorter += len(file) < most
        self.assertGreater(shorter, 0)


class There(Case):
    def test_whatever_picture_by_whatever_levels_and_sections(self):
        chance = random.Random(3)
        for turn in range(150):
            kind = chance.choice(all_kinds())
            picture = any_picture(kind, chance.randrange(1, 25), chance.randrange(1, 13), turn)
            levels, each = chance.randrange(4), chance.randrange(1, 41)
            file = written(picture, levels=levels, each=each, notes=some_notes(chance.randrange(4), chance))
            self.same(read(file), picture)
            self.same(levels_of(file), levels)
            self.same(file[:4], MARK)

    def test_other_writers_files_are_laid_as_wanted(self):
        # So that the files of the tests above are what they should be.
        chance = random.Random(23)
        for turn in range(20):
            parts = any_parts(GREY, turn % 4, chance)
            names = [bytes(part[2:6]).decode() for part in parts]
            self.assertEqual([name for name in names if name[0].isupper() and name != "Body"], ["Head", "Last"])
            self.assertEqual(laid(parts), MARK + joined(parts))
