"""Strict readers: point 22, and what point 26 says of them."""

import copy
import itertools
import random

from tests.filemaking import GREY, MARK, NAMED, broken_files, cut, laid, other_writers, places, plain_parts, raw, spoilt
from tests.readercase import NO_BYTES, ReaderCase
from tests.samples import all_kinds, any_picture, exactly, palette, spoil, whatever
from tornpictures.coarse import coarse, grid
from tornpictures.errors import NoBytes, NotYet, PictureError, Torn
from tornpictures.files import read, written
from tornpictures.lines import line_rows, lines
from tornpictures.passes import parted
from tornpictures.reader import Reader


class Cuts(ReaderCase):
    def led(self, pieces, picture, levels):
        """Feeds the pieces; looks at all that is told behind each."""
        reader, told, fed = Reader(), [], []
        for piece in pieces:
            before = len(told)
            told += reader.feed(piece)
            fed += piece
            right = self.agrees(reader, fed, True, shown=picture)
            self.same(told, right["lines"])
            self.assertGreaterEqual(len(told), before)
        self.same(reader.end(), [])
        self.same(told, list(enumerate(line_rows(picture, levels))))
        self.same(reader.state(), "done")
        self.same(reader.picture(), picture)
        self.same(reader.shape(), (picture[0], picture[1], picture[2], levels))
        return told

    def test_byte_by_byte(self):
        for picture, levels in ((GREY, 0), (NAMED, 1), (any_picture(("colour",), 3, 3), 3)):
            file = written(picture, levels=levels, each=2, notes=(("note", [1, 2]),))
            self.led([[byte] for byte in file], picture, levels)
            self.led(list(itertools.chain(*[([], [byte], []) for byte in file])), picture, levels)

    def test_in_two(self):
        file = written(NAMED, levels=1, each=2)
        for at in range(len(file) + 1):
            self.led([file[:at], file[at:]], NAMED, 1)

    def test_at_once(self):
        for kind, levels in itertools.product(all_kinds(), range(4)):
            picture = any_picture(kind, 6, 5)
            self.led([written(picture, levels=levels, each=3)], picture, levels)

    def test_cut_anywhere(self):
        chance = random.Random(24)
        for longest in (1, 3, 10, 50, 400):
            for picture, levels, parts in other_writers(f"cuts {longest}", 8):
                self.led(cut(laid(parts), chance, longest), picture, levels)

    def test_each_as_soon_as_its_chunk_is_whole(self):
        parts = plain_parts(GREY, 0, 2)
        file, ends = laid(parts), places(parts)
        reader, told = Reader(), {}
        for at, byte in enumerate(file):
            for number, pixels in reader.feed([byte]):
                told[number] = (at + 1, pixels)
        wanted_told = {number: (ends[2 + number // 2], GREY[3][number]) for number in range(6)}
        self.same(told, wanted_told)

    def test_state_as_soon_as_a_chunk_is_whole(self):
        parts = plain_parts(NAMED, 0, 4)
        file, ends = laid(parts), places(parts)
        reader, changes = Reader(), [(0, "new")]
        for at, byte in enumerate(file):
            reader.feed([byte])
            if reader.state() != changes[-1][1]:
                changes.append((at + 1, reader.state()))
        self.same(changes, [(0, "new"), (ends[2], "open"), (ends[4], "done")])

    def test_by_names(self):
        file = written(GREY)
        reader = Reader(strict=True)
        self.same(reader.feed(piece=file[:50], seen=None) + reader.feed(piece=file[50:]), list(enumerate(GREY[3])))
        self.same(reader.picture(), GREY)
        with self.assertRaises(TypeError):
            Reader(True)
        with self.assertRaises(TypeError):
            reader.feed([], None)


class Breaks(ReaderCase):
    def test_each_reason(self):
        chance = random.Random(25)
        for why, bytes_of, at, told in broken_files():
            with self.subTest(why):
                self.breaks(bytes_of, at, told, [bytes_of])
                self.breaks(bytes_of, at, told, cut(bytes_of, chance, 12))

    def breaks(self, bytes_of, at, told, pieces):
        """That a strict reader is broken at this place by a feeding, or at the end, with so many lines told."""
        reader, numbers, fed = Reader(), [], 0
        for piece in pieces:
            if reader.state() == "broken":
                break
            numbers += [number for number, pixels in reader.feed(piece)]
            fed += len(piece)
        self.agrees(reader, bytes_of[:fed], True)
        if reader.state() != "broken":
            self.refused(Torn, reader, reader.end, at=at)
        self.same(reader.place(), at)
        self.same(reader.state(), "broken")
        self.same(numbers, list(range(told)))
        self.same((len(reader), reader.passed(), reader.lost()), (told, [], []))
        self.stopped(reader)

    def test_the_feeding_at_which_it_breaks_tells_the_lines_ahead(self):
        parts = plain_parts(GREY, 0, 2)
        file = laid(parts[:2] + [spoilt(parts[2])] + parts[3:])
        reader = Reader()
        self.same(reader.feed(file), [(0, GREY[3][0]), (1, GREY[3][1])])
        self.same((reader.state(), reader.place(), len(reader)), ("broken", places(parts)[2], 2))
        self.same(reader.fed(), len(file))
        self.stopped(reader)

    def test_no_sooner_than_the_chunk_is_whole(self):
        parts = plain_parts(GREY, 0, 2)
        bad = [spoilt(parts[0]), raw([0] * 4, [1]), raw("Great"[:4], [2]), raw("note", []), parts[1], parts[-1]]
        for part in bad:
            reader = Reader()
            reader.feed(MARK)
            for byte in part[:-1]:
                reader.feed([byte])
                self.same((reader.state(), reader.place()), ("new", None))
            self.same(reader.feed(part[-1:]), [])
            self.same((reader.state(), reader.place()), ("broken", 4))
            self.stopped(reader)

    def test_no_sooner_than_the_mark_is_whole(self):
        for wrong in ([0, 0, 0, 0], [83, 80, 13, 10], [84, 80, 13, 11]):
            reader = Reader()
            for byte in wrong[:3]:
                reader.feed([byte])
                self.same((reader.state(), reader.place()), ("new", None))
            reader.feed(wrong[3:])
            self.same((reader.state(), reader.place(), reader.fed()), ("broken", 0, 4))

    def test_a_length_above_3000_as_soon_as_its_two_bytes_are_there(self):
        parts = plain_parts(GREY, 0, 2)
        for strict, number in itertools.product((True, False), range(len(parts))):
            for length in ([11, 185], [12, 0], [255, 255]):
                reader = Reader(strict=strict)
                reader.feed(laid(parts[:number]))
                at = reader.fed()
                reader.feed(length[:1])
                self.assertEqual(reader.place(), None)
                self.same(reader.feed(length[1:]), [])
                self.same((reader.state(), reader.place()), ("broken", at))
                self.stopped(reader)
        reader = Reader()
        reader.feed(MARK + [11, 184])
        self.same(reader.state(), "new")

    def test_bytes_behind_last(self):
        file = written(GREY)
        for more in ([0], [255], MARK, file):
            for pieces in ([file, more], [file + more], [file[:-1], file[-1:] + more], [file, [], more]):
                reader = Reader()
                told = [line for piece in pieces for line in reader.feed(piece)]
                self.same(told, list(enumerate(GREY[3])))
                self.same((reader.state(), reader.place()), ("broken", len(file)))
                self.same(reader.fed(), len(file) + len(more))
                self.same(reader.whole(), 1)
                self.same(reader.coarse(), GREY)
                self.refused(NotYet, reader, reader.picture)
                self.stopped(reader)

    def test_no_bytes_behind_last(self):
        reader = Reader()
        reader.feed(written(GREY))
        for turn in range(3):
            self.same(reader.feed([]), [])
            self.same((reader.state(), reader.place()), ("done", None))
            self.same(reader.picture(), GREY)


class Ends(ReaderCase):
    def test_done_and_ended(self):
        file = written(GREY)
        reader = Reader()
        reader.feed(file)
        before = self.asked(reader)
        self.same(reader.end(), [])
        self.same(self.asked(reader), before)
        self.stopped(reader)
        self.same(self.asked(reader), before)

    def test_torn_at_each_byte(self):
        for picture in (GREY, NAMED):
            parts = plain_parts(picture, 1, 2)
            file, begins = laid(parts), places(parts)
            for many in range(len(file)):
                reader = Reader()
                told = reader.feed(file[:many])
                at = max([begin for begin in begins if begin <= many], default=0)
                self.refused(Torn, reader, reader.end, at=at)
                self.same((reader.state(), reader.place(), reader.fed()), ("broken", at, many))
                self.same(len(reader), len(told))
                self.agrees(reader, file[:many], True, ended=True, shown=picture)
                self.stopped(reader)

    def test_torn_without_a_byte(self):
        reader = Reader()
        self.refused(Torn, reader, reader.end, at=0)
        self.same((reader.state(), reader.place(), reader.fed()), ("broken", 0, 0))
        self.stopped(reader)
        reader = Reader()
        self.same(reader.feed([]), [])
        self.refused(Torn, reader, reader.end, at=0)

    def test_torn_is_where_the_file_is_refused(self):
        file = written(NAMED, levels=2, each=3)
        for many in (0, 3, 4, 5, 30, 60, len(file) - 1):
            reader = Reader()
            reader.feed(file[:many])
            with self.assertRaises(Torn) as torn:
                reader.end()
            with self.assertRaises(PictureError) as broken:
                read(file[:many])
            self.same(torn.exception.at, broken.exception.at)

    def test_what_is_no_list_of_bytes(self):
        file = written(GREY, each=2)
        for thing in list(NO_BYTES) + whatever():
            if thing == [] and isinstance(thing, list) or thing == [1, 2] or exactly(thing) == exactly([0] * 20000):
                continue
            for many in (0, 30, len(file)):
                reader = Reader()
                reader.feed(file[:many])
                before = exactly(thing)
                self.refused(NoBytes, reader, reader.feed, thing)
                self.assertEqual(exactly(thing), before)
                reader.feed(file[many:])
                self.same(reader.picture(), GREY)


class Asked(ReaderCase):
    def test_a_new_one(self):
        for reader in (Reader(), Reader(strict=True), Reader(strict=False)):
            self.same(self.asked(reader), {
                "state": "new", "fed": 0, "place": None, "passed": [], "lost": [], "shape": None, "whole": 0, "len": 0,
                "picture": "not yet", "coarse": "not yet",
            })

    def test_new_until_pale_where_one_is_wanted(self):
        parts = plain_parts(NAMED, 1, 2)
        note = raw("note", [1])
        for strict in (True, False):
            reader = Reader(strict=strict)
            reader.feed(MARK + parts[0] + note)
            self.same((reader.state(), reader.shape(), reader.whole(), reader.lost()), ("new", None, 0, []))
            self.refused(NotYet, reader, reader.picture)
            self.refused(NotYet, reader, reader.coarse)
            reader.feed(parts[1])
            self.same((reader.state(), reader.shape(), reader.whole()), ("open", (NAMED[0], 4, 4, 1), 0))
            self.refused(NotYet, reader, reader.coarse)
            reader.feed(parts[2])
            self.same((reader.state(), reader.whole(), len(reader)), ("open", 1, 2))
            self.refused(NotYet, reader, reader.picture)

    def test_broken_ahead_of_head_or_pale(self):
        parts = plain_parts(NAMED, 1, 2)
        for strict in (True, False):
            for begin in (MARK[:3] + [0], MARK + parts[1], MARK + parts[0] + parts[2], MARK + parts[0] + parts[0]):
                reader = Reader(strict=strict)
                reader.feed(begin + laid(parts)[4:])
                told = self.asked(reader)
                self.same((told["state"], told["shape"], told["whole"], told["len"]), ("broken", None, 0, 0))
                self.same((told["picture"], told["coarse"], told["lost"]), ("not yet", "not yet", []))
            for begin in ([], MARK, MARK + parts[0], MARK + parts[0] + parts[1][:-1]):
                reader = Reader(strict=strict)
                reader.feed(begin)
                with self.assertRaises(Torn):
                    reader.end()
                self.same((reader.state(), reader.shape(), reader.whole()), ("broken", None, 0))

    def test_whole_passes_and_coarse_pictures(self):
        for levels, (width, height) in itertools.product(range(4), ((1, 1), (1, 9), (9, 1), (2, 2), (8, 8), (5, 7), (24, 3))):
            picture = any_picture(("named", 4, palette(9)), width, height)
            plan = lines(width, height, levels)
            reader, taken = Reader(), 0
            for part in [MARK] + plain_parts(picture, levels, 1):
                taken += len(reader.feed(part))
                lacking = [number for number, row, length in plan[taken:]]
                whole = min(lacking + [2 * levels + 1]) if reader.shape() else 0
                self.same(reader.whole(), whole)
                if whole:
                    kind = picture[0]
                    self.same(reader.coarse(), coarse(kind, width, height, levels, parted(picture, levels)[:whole]))
                else:
                    self.refused(NotYet, reader, reader.coarse)
            self.same(reader.whole(), 2 * levels + 1)
            self.same(reader.coarse(), picture)

    def test_passes_without_lines_are_whole(self):
        # A picture of one column: the passes that begin farther to the right have no lines.
        picture = any_picture(("grey", 8), 1, 4)
        self.same(lines(1, 4, 2), [(0, 0, 1), (2, 0, 1), (4, 0, 1), (4, 1, 1)])
        reader, wholes = Reader(), []
        for part in [MARK] + plain_parts(picture, 2, 1):
            reader.feed(part)
            wholes.append(reader.whole())
        self.same(wholes, [0, 0, 2, 4, 4, 5, 5])

    def test_what_is_told_is_the_askers_own(self):
        file = written(NAMED, levels=1, each=2)
        for strict, many in itertools.product((True, False), (0, 40, 70, len(file))):
            reader = Reader(strict=strict)
            piece = file[:many]
            told = reader.feed(piece)
            kept, asked = copy.deepcopy(told), self.asked(reader)
            spoil(told)
            spoil(piece)
            for deed in (reader.passed, reader.lost, reader.shape):
                spoil(deed())
            self.same(self.asked(reader), asked)
            rest = reader.feed(file[many:])
            self.same(kept + rest, list(enumerate(line_rows(NAMED, 1))))
            kept, asked = copy.deepcopy(rest), self.asked(reader)
            reader.feed([])
            reader.end()
            self.same(rest, kept)
            self.same(self.asked(reader), asked)
            self.same(reader.picture(), NAMED)

    def test_nothing_handed_in_is_changed(self):
        file = written(NAMED, levels=1, each=2)
        for strict in (True, False):
            reader = Reader(strict=strict)
            for at in range(0, len(file), 7):
                piece = file[at:at + 7]
                before = list(piece)
                reader.feed(piece)
                self.assertEqual(piece, before)
                piece[:] = [0] * 9
            self.same(reader.picture(), NAMED)

    def test_two_readers_know_nothing_of_one_another(self):
        one, other = Reader(), Reader()
        first, second = written(GREY, each=2), written(NAMED, levels=2, each=1)
        for at in range(0, max(len(first), len(second)), 9):
            one.feed(first[at:at + 9])
            other.feed(second[at:at + 9])
        self.same(one.picture(), GREY)
        self.same(other.picture(), NAMED)
        self.same((one.fed(), other.fed()), (len(first), len(second)))

    def test_early_passes_show_what_the_whole_shows(self):
        picture = any_picture(("colour",), 9, 11)
        for levels in range(4):
            reader, asked = Reader(), 0
            for byte in written(picture, levels=levels, each=4):
                reader.feed([byte])
                if reader.whole() == asked:
                    continue
                asked = reader.whole()
                rows = reader.coarse()[3]
                across, down = grid(levels, asked)
                self.same(reader.coarse()[:3], picture[:3])
                for x, y in itertools.product(range(0, 9, across), range(0, 11, down)):
                    self.same(rows[y][x], picture[3][y][x])
            self.same(asked, 2 * levels + 1)
            self.same(reader.coarse(), picture)
