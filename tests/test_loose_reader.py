"""Readers that aren't strict: points 23 and 24, what point 26 says of them, and point 3 of broken chunks."""

import itertools
import random

from tests.filemaking import (
    GREY, MARK, NAMED, any_notes, any_parts, body_with, broken_bodies, broken_files, broken_heads, broken_pales, cut, heads,
    laid, other_writers, places, plain_body, plain_parts, raw, spoilt, wanted,
)
from tests.readercase import ReaderCase
from tests.samples import any_picture, palette
from tests.test_sections import joined
from tornpictures.errors import NotYet, Torn
from tornpictures.files import written
from tornpictures.lines import line_rows
from tornpictures.reader import Reader

LAST = raw("Last", [])
LINES = tuple(enumerate(GREY[3]))


class LooseCase(ReaderCase):
    def led(self, bytes_of, pieces=None, shown=None):
        """A reader that was fed the pieces as far as it takes them, and the lines told; looked at behind each."""
        reader, told, fed = Reader(strict=False), [], []
        for piece in [bytes_of] if pieces is None else pieces:
            if reader.state() == "broken":
                break
            told += reader.feed(piece)
            fed += piece
            right = self.agrees(reader, fed, False, shown=shown)
            self.same(told, right["lines"])
        return reader, told

    def passes_over(self, parts, passed, numbers, lost, picture=GREY, levels=0):
        """That it is done, with these chunks passed over, these lines told and those lost."""
        bytes_of = laid(parts)
        at = places(parts)
        for pieces in ([bytes_of], [[byte] for byte in bytes_of]):
            reader, told = self.led(bytes_of, pieces)
            self.same(reader.state(), "done")
            self.same(reader.place(), None)
            self.same(reader.passed(), [at[number] for number in passed])
            self.same(told, [(number, line_rows(picture, levels)[number]) for number in numbers])
            self.same(reader.lost(), list(lost))
            self.same(reader.shape(), picture[:3] + (levels,))
            if lost:
                self.refused(NotYet, reader, reader.picture)
            else:
                self.same(reader.picture(), picture)
            self.same(reader.end(), [])
            self.stopped(reader)
        return reader

    def breaks(self, parts, number, told=0):
        """That the chunk of this number breaks it, as soon as it is whole and no sooner."""
        bytes_of, at = laid(parts), places(parts)
        reader, lines_told = self.led(bytes_of)
        self.same((reader.state(), reader.place(), len(lines_told)), ("broken", at[number], told))
        self.stopped(reader)
        reader = Reader(strict=False)
        reader.feed(bytes_of[:at[number + 1] - 1])
        self.same(reader.place(), None)
        reader.feed(bytes_of[at[number + 1] - 1:at[number + 1]])
        self.same((reader.state(), reader.place(), len(reader)), ("broken", at[number], told))
        self.stopped(reader)


class PassesOver(LooseCase):
    def setUp(self):
        self.parts = plain_parts(GREY, 0, 2)
        self.assertEqual(len(self.parts), 5)

    def test_nothing_of_a_right_file(self):
        self.passes_over(self.parts, [], range(6), [])
        named = plain_parts(NAMED, 1, 2)
        self.passes_over(named, [], range(6), [], NAMED, 1)

    def test_other_writers(self):
        chance = random.Random(23)
        for picture, levels, parts in other_writers("loose", 40):
            reader, told = self.led(laid(parts), cut(laid(parts), chance, 60), picture)
            self.same(told, list(enumerate(line_rows(picture, levels))))
            self.same(reader.picture(), picture)
            self.same((reader.passed(), reader.lost(), reader.place()), ([], [], None))

    def test_a_check_that_is_not_right(self):
        head, one, two, three, last = self.parts
        for at in (2, 5, 6, 8, 12, -4, -1):
            self.passes_over([head, spoilt(one, at), two, three, last], [1], (2, 3, 4, 5), [0, 1])
            self.passes_over([head, one, spoilt(two, at), three, last], [2], (0, 1, 4, 5), [2, 3])
            self.passes_over([head, one, two, spoilt(three, at), last], [3], (0, 1, 2, 3), [4, 5])
            self.passes_over([head, spoilt(one, at), spoilt(two, at), spoilt(three, at), last], [1, 2, 3], (), range(6))

    def test_a_head_or_a_note_whose_check_is_not_right(self):
        head, one, two, three, last = self.parts
        note = raw("note", [1, 2, 3])
        bad = spoilt(note, 7)
        self.passes_over([spoilt(head), bad] + self.parts, [0, 1], range(6), [])
        self.passes_over([head, bad, one, bad, two, three, bad, last], [1, 3, 6], range(6), [])
        self.passes_over([head, spoilt(head), one, two, three, spoilt(last), last], [1, 5], range(6), [])
        named = plain_parts(NAMED, 1, 2)
        self.passes_over(named[:1] + [spoilt(named[1]), spoilt(named[0])] + named[1:], [1, 2], range(6), [], NAMED, 1)

    def test_a_name_that_is_none_whose_check_is_not_right(self):
        head, one, two, three, last = self.parts
        bad = spoilt(raw([0, 255, 32, 64], [5]))
        self.passes_over([bad, head, one, bad, two, three, last], [0, 3], range(6), [])
        great = spoilt(raw("Grea", [5]))
        self.passes_over([great, head, great, one, two, three, last], [0, 2], range(6), [])

    def test_small_ones(self):
        # By their told length, and not among the passed places; ahead of Head, too.
        head, one, two, three, last = self.parts
        note, long = raw("note", []), raw("zLAS", [255] * 3000)
        self.passes_over([note, head, note, one, note, note, two, three, note, last], [], range(6), [])
        self.passes_over([note, note] + self.parts, [], range(6), [])
        self.passes_over([head, one, two, long, three, last], [], range(6), [])
        named = plain_parts(NAMED, 1, 2)
        self.passes_over([note] + named[:1] + [note, note] + named[1:], [], range(6), [], NAMED, 1)

    def test_a_body_that_is_not_right_by_itself(self):
        head, one, two, three, last = self.parts
        for why, part in broken_bodies(GREY, 0, 2, 2):
            with self.subTest(why):
                self.passes_over([head, one, part, three, last], [2], (0, 1, 4, 5), [2, 3])
                self.passes_over([head, one, part, two, three, last], [2], range(6), [])
        for why, part in broken_bodies(GREY, 0, 0, 6):
            with self.subTest(why):
                self.passes_over([head, part, last], [1], (), range(6))

    def test_a_body_beyond_the_last_line(self):
        head, one, two, three, last = self.parts
        for first, many in ((5, 2), (6, 1), (4, 3), (65535, 1), (0, 7), (256, 2)):
            part = body_with(first, many, three[9:-4])
            self.passes_over([head, one, two, part, last], [3], range(4), [4, 5])

    def test_a_body_behind_a_gap(self):
        head, one, two, three, last = self.parts
        self.passes_over([head, two, three, last], [], (2, 3, 4, 5), [0, 1])
        self.passes_over([head, three, last], [], (4, 5), [0, 1, 2, 3])
        self.passes_over([head, one, three, last], [], (0, 1, 4, 5), [2, 3])
        self.passes_over([head, two, last], [], (2, 3), [0, 1, 4, 5])
        single = plain_body(GREY, 0, 5, 1)
        self.passes_over([head, single, last], [], (5,), [0, 1, 2, 3, 4])

    def test_a_body_that_comes_too_late(self):
        head, one, two, three, last = self.parts
        self.passes_over([head, two, one, three, last], [2], (2, 3, 4, 5), [0, 1])
        self.passes_over([head, one, one, two, three, three, last], [2, 5], range(6), [])
        self.passes_over([head, three, two, one, last], [2, 3], (4, 5), [0, 1, 2, 3])
        # One that begins with a line that was told, and goes on behind it.
        across = plain_body(GREY, 0, 1, 3)
        self.passes_over([head, one, across, three, last], [2], (0, 1, 4, 5), [2, 3])
        all_lines = plain_body(GREY, 0, 0, 6)
        self.passes_over([head, one, all_lines, last], [2], (0, 1), [2, 3, 4, 5])
        self.passes_over([head, all_lines, all_lines, one, last], [2, 3], range(6), [])

    def test_last_with_lines_lacking(self):
        head, one, two, three, last = self.parts
        self.passes_over([head, last], [], (), range(6))
        self.passes_over([head, one, last], [], (0, 1), [2, 3, 4, 5])
        self.passes_over([head, one, two, last], [], (0, 1, 2, 3), [4, 5])

    def test_bytes_behind_last(self):
        file = laid(self.parts)
        for more in ([0], [255, 255], [11, 185], MARK, LAST, file, spoilt(LAST), raw([0] * 4, [])):
            for pieces in ([file + more], [file, more], [file[:-1], file[-1:] + more, more]):
                reader, told = self.led(file, pieces)
                self.same(told, list(LINES))
                self.same((reader.state(), reader.place(), reader.passed(), reader.lost()), ("done", None, [], []))
                self.same(reader.fed(), len(joined(pieces)))
                self.same(reader.picture(), GREY)
                self.same(reader.feed(more), [])
                self.same(reader.end(), [])
                self.same(reader.picture(), GREY)
                self.stopped(reader)


class Breaks(LooseCase):
    def setUp(self):
        self.parts = plain_parts(GREY, 0, 2)
        self.named = plain_parts(NAMED, 1, 2)

    def test_the_mark(self):
        for wrong in ([0, 80, 13, 10], [84, 80, 13, 11], [84, 80, 10, 13]):
            reader = Reader(strict=False)
            for byte in wrong[:3]:
                reader.feed([byte])
                self.same((reader.state(), reader.place()), ("new", None))
            reader.feed(wrong[3:])
            self.same((reader.state(), reader.place(), reader.shape()), ("broken", 0, None))
            self.stopped(reader)

    def test_a_name_that_is_none(self):
        for name in ([66, 111, 100, 48], [0] * 4, [110, 111, 116, 32], [255] * 4, [97, 97, 97, 123], [97, 96, 97, 97]):
            for number in range(len(self.parts)):
                parts = self.parts[:number] + [raw(name, [1])] + self.parts[number:]
                self.breaks(parts, number, max(number - 1, 0) * 2)
            self.breaks(self.named[:1] + [raw(name, [])] + self.named[1:], 1)

    def test_a_great_name_that_is_not_known(self):
        for name in ("Note", "BODY", "Zzzz", "Aaaa"):
            for number in range(len(self.parts)):
                parts = self.parts[:number] + [raw(name, [1])] + self.parts[number:]
                self.breaks(parts, number, max(number - 1, 0) * 2)
            self.breaks(self.named[:1] + [raw(name, [])] + self.named[1:], 1)

    def test_a_chunk_ahead_of_head(self):
        for part in self.parts[1:] + self.named[1:] + [raw("Last", [1]), raw("Body", [])]:
            self.breaks([part] + self.parts, 0)
            self.breaks([raw("note", []), part] + self.parts, 1)
            self.breaks([spoilt(self.parts[0]), part] + self.parts, 1)

    def test_a_head_that_tells_no_picture(self):
        for why, part in broken_heads():
            with self.subTest(why):
                self.breaks([part] + self.parts[1:], 0)
                self.breaks([raw("note", []), part], 1)

    def test_a_head_that_comes_again(self):
        for number in range(1, len(self.parts)):
            self.breaks(self.parts[:number] + self.parts[:1] + self.parts[number:], number, 2 * (number - 1))
            self.breaks(self.parts[:number] + self.named[:1] + self.parts[number:], number, 2 * (number - 1))
        self.breaks(self.named[:1] + self.named, 1)

    def test_a_pale_that_does_not_fit(self):
        for why, part in broken_pales():
            with self.subTest(why):
                self.breaks(self.named[:1] + [part] + self.named[2:], 1)

    def test_a_pale_that_is_not_wanted_or_comes_again(self):
        colour = plain_parts(any_picture(("colour",), 3, 6), 0, 2)
        for parts in (self.parts, colour):
            for number in range(1, len(parts)):
                self.breaks(parts[:number] + self.named[1:2] + parts[number:], number, 2 * (number - 1))
        for number in range(2, len(self.named)):
            told = 2 * (number - 2)
            self.breaks(self.named[:number] + self.named[1:2] + self.named[number:], number, told)

    def test_a_body_or_last_ahead_of_pale(self):
        for part in self.named[2:] + [raw("Body", []), raw("Body", [1]), raw("Last", [1])]:
            self.breaks(self.named[:1] + [part] + self.named[1:], 1)
            self.breaks(self.named[:1] + [raw("note", []), spoilt(self.named[1]), part] + self.named[1:], 3)

    def test_a_last_with_a_body(self):
        for body in ([0], [1, 2, 3]):
            self.breaks(self.parts[:-1] + [raw("Last", body)], 4, 6)
            self.breaks(self.parts[:1] + [raw("Last", body)] + self.parts[1:], 1)

    def test_as_a_strict_one_by_files_that_are_broken(self):
        chance = random.Random(26)
        states = set()
        for why, bytes_of, at, told in broken_files():
            with self.subTest(why):
                reader, lines_told = self.led(bytes_of)
                other, lines_other = self.led(bytes_of, cut(bytes_of, chance, 20))
                self.same(lines_told, lines_other)
                # What it passes over stands where a strict one breaks, or behind it.
                places_told = [reader.place()] if reader.place() is not None else []
                self.assertGreaterEqual(min(reader.passed() + places_told + [at]), at)
                states.add(reader.state())
        self.assertEqual(states, {"new", "open", "done", "broken"})

    def test_lost_lines_of_one_that_broke(self):
        head, one, two, three, last = self.parts
        for parts, lost, told in (
            ([head, two, head], [0, 1], 2), ([head, head], [], 0), ([head, one, three, head], [2, 3], 4),
            ([head, spoilt(one), head], [], 0), ([head, one, spoilt(two), head], [], 2),
        ):
            reader, lines_told = self.led(laid(parts))
            self.same((reader.state(), reader.lost(), len(reader)), ("broken", lost, told))


class Ended(LooseCase):
    def test_done_where_head_and_pale_were_there(self):
        for picture in (GREY, NAMED):
            parts = plain_parts(picture, 1, 2)
            file, ahead = laid(parts), len(heads(picture, 1))
            total = len(line_rows(picture, 1))
            for many in range(places(parts)[ahead], len(file) + 1):
                reader, told = self.led(file[:many], None, picture)
                self.same(reader.end(), [])
                self.same((reader.state(), reader.place(), reader.fed()), ("done", None, many))
                self.same(reader.passed(), [])
                self.same(reader.lost(), list(range(len(told), total)))
                self.agrees(reader, file[:many], False, ended=True, shown=picture)
                self.stopped(reader)

    def test_torn_where_they_were_not(self):
        for picture in (GREY, NAMED):
            parts = plain_parts(picture, 1, 2)
            file, ahead = laid(parts), len(heads(picture, 1))
            begins = places(parts)
            for many in range(begins[ahead]):
                reader = Reader(strict=False)
                reader.feed(file[:many])
                at = max([begin for begin in begins if begin <= many], default=0)
                self.refused(Torn, reader, reader.end, at=at)
                self.same((reader.state(), reader.place(), reader.fed()), ("broken", at, many))
                self.same((reader.shape(), reader.whole(), reader.lost()), (None, 0, []))
                self.stopped(reader)

    def test_torn_behind_what_was_passed_over(self):
        head = plain_parts(GREY, 0, 2)[0]
        file = MARK + raw("note", [1]) + spoilt(head)
        for more in ([], [0], [0, 0, 72]):
            reader = Reader(strict=False)
            reader.feed(file + more)
            self.refused(Torn, reader, reader.end, at=len(file))
            self.same((reader.place(), reader.passed()), (len(file), [15]))

    def test_the_picture_without_last(self):
        parts = plain_parts(GREY, 0, 2)
        for behind in ([], [spoilt(LAST)], [LAST[:-1]], [raw("note", [])]):
            reader = Reader(strict=False)
            reader.feed(laid(parts[:-1] + behind))
            self.refused(NotYet, reader, reader.picture)
            self.same((reader.state(), reader.lost()), ("open", []))
            self.same(reader.end(), [])
            self.same((reader.state(), reader.lost(), reader.picture()), ("done", [], GREY))

    def test_one_that_is_not_whole_at_the_end_is_not_passed(self):
        parts = plain_parts(GREY, 0, 2)
        reader = Reader(strict=False)
        reader.feed(laid(parts[:1] + [spoilt(parts[1]), spoilt(parts[2])[:-1]]))
        reader.end()
        self.same((reader.passed(), reader.lost()), ([20], [0, 1, 2, 3, 4, 5]))

    def test_lost_of_an_open_one(self):
        head, one, two, three, last = plain_parts(GREY, 0, 2)
        reader, lost = Reader(strict=False), []
        for part in (MARK, head, spoilt(one), two, raw("note", []), spoilt(three)):
            reader.feed(part)
            lost.append(reader.lost())
        self.same(lost, [[], [], [], [0, 1], [0, 1], [0, 1]])
        self.same(reader.end(), [])
        self.same(reader.lost(), [0, 1, 4, 5])


class Cuts(LooseCase):
    def test_the_same_answers_by_whatever_cuts(self):
        chance = random.Random(27)
        states = set()
        for picture, levels, parts in other_writers("spoilt", 60):
            bytes_of = laid(self.mixed(parts, chance))
            right = wanted(bytes_of, strict=False, ended=True)
            for longest in (1, 7, 90, len(bytes_of)):
                reader, told = self.led(bytes_of, cut(bytes_of, chance, longest))
                if reader.state() != "broken" and right["torn"] is None:
                    self.same(reader.end(), [])
                self.same(told, right["lines"])
                if right["torn"] is None:
                    for name, deed in (("state", reader.state), ("place", reader.place), ("passed", reader.passed),
                                       ("lost", reader.lost), ("whole", reader.whole), ("shape", reader.shape)):
                        self.same(deed(), right[name], name)
                states.add((reader.state(), bool(reader.lost()), bool(reader.passed())))
        self.assertGreater(len(states), 4)

    def mixed(self, parts, chance):
        """Some chunks spoilt, some left out, some exchanged, some notes anywhere."""
        told = []
        for part in parts:
            way = chance.randrange(12)
            told += any_notes(chance) if way == 0 else []
            if way == 1:
                told.append(spoilt(part, chance.randrange(2, len(part))))
            elif way == 2:
                told.append(raw("Body", part[6:-4]))
            elif way != 3 or part == parts[0]:
                told.append(part)
            if way == 4 and len(told) > 2:
                told[-1], told[-2] = told[-2], told[-1]
        return told


class BrokenChunks(LooseCase):
    def test_lines_of_its_own_and_only_those_between_lost(self):
        # Point 3: other bytes in names, bodies or checks, lengths left as they were.
        chance = random.Random(28)
        for turn in range(120):
            kind = chance.choice([("grey", 2), ("colour",), ("named", 4, palette(9))])
            picture = any_picture(kind, chance.randrange(1, 15), chance.randrange(1, 15), turn)
            levels = chance.randrange(4)
            parts = any_parts(picture, levels, chance, most=4)
            ahead = 1 if kind[0] != "named" else 1 + [part[2:6] == list(b"Pale") for part in parts].index(True)
            broken = [number for number in range(ahead, len(parts)) if chance.randrange(4) == 0]
            other = list(parts)
            for number in broken:
                other[number] = self.other_bytes(parts[number], chance)
            rows = line_rows(picture, levels)
            reader, told = self.led(laid(other), cut(laid(other), chance, 50))
            self.same(reader.end(), [])
            lost = []
            for number in broken:
                if parts[number][2:6] == list(b"Body"):
                    first, many = parts[number][6] * 256 + parts[number][7], parts[number][8]
                    lost += range(first, first + many)
            self.same(told, [(number, row) for number, row in enumerate(rows) if number not in lost])
            self.same((reader.state(), reader.lost()), ("done", lost))
            self.same(reader.passed(), [places(parts)[number] for number in broken])
            strict = Reader()
            strict.feed(laid(other))
            self.same(strict.place(), places(parts)[broken[0]] if broken else None)

    def other_bytes(self, part, chance):
        """The chunk with a few other bytes behind its length, so that the check isn't right."""
        while True:
            told = list(part)
            for turn in range(chance.randrange(1, 6)):
                told[chance.randrange(2, len(told))] = chance.randrange(256)
            if raw(told[2:6], told[6:-4]) != told:
                return told


class Written(LooseCase):
    def test_both_sorts_tell_the_same_of_a_written_file(self):
        for picture, levels, each in itertools.product((GREY, NAMED), range(4), (1, 4)):
            file = written(picture, levels=levels, each=each, notes=(("note", [1]),))
            readers = [Reader(), Reader(strict=False)]
            for byte in file:
                one, other = [reader.feed([byte]) for reader in readers]
                self.same(one, other)
            one, other = [self.asked(reader) for reader in readers]
            self.same(one, other)
            self.same(one["picture"], picture)
