"""Deeds that are called for lines newly told: point 25."""

import itertools

from tests.filemaking import GREY, MARK, NAMED, laid, plain_parts, raw, spoilt
from tests.readercase import ReaderCase
from tests.samples import any_picture
from tornpictures.errors import Stopped, Torn
from tornpictures.files import written
from tornpictures.lines import line_rows
from tornpictures.reader import Reader

LINES = list(enumerate(GREY[3]))


class Enough(Exception):
    """What a deed raises."""


class Deed:
    """Notes what it is called with; raises at one call, where one is named."""

    def __init__(self, raises_at=None, error=Enough):
        self.calls, self.raises_at, self.error = [], raises_at, error

    def __call__(self, number, pixels):
        self.calls.append((number, pixels))
        if len(self.calls) - 1 == self.raises_at:
            raise self.error


class SeenCase(ReaderCase):
    def raised(self, reader, piece, call):
        """Feeds with a deed that raises at a call, and tells what it was called with ahead of that one."""
        deed = Deed(call)
        with self.assertRaises(Enough):
            reader.feed(piece, seen=deed)
        self.assertEqual(len(deed.calls), call + 1)
        return deed.calls[:-1]


class Calls(SeenCase):
    def test_number_and_pixels_in_their_order(self):
        for strict, each in itertools.product((True, False), (1, 2, 6)):
            file = written(GREY, each=each)
            for longest in (1, 5, 40, len(file)):
                deed, told, reader = Deed(), [], Reader(strict=strict)
                for at in range(0, len(file), longest):
                    told += reader.feed(file[at:at + longest], seen=deed)
                    self.same(deed.calls, told)
                self.same(told, LINES)

    def test_not_without_lines(self):
        deed, reader = Deed(), Reader()
        reader.feed([], seen=deed)
        reader.feed(MARK + plain_parts(GREY, 0, 2)[0], seen=deed)
        self.same(deed.calls, [])

    def test_behind_all_that_the_piece_changes(self):
        # What is asked of the reader within a call isn't promised; a first call that raises leaves it as it was then.
        file = written(GREY, each=2)
        for strict, more in itertools.product((True, False), ([], [0])):
            reader = Reader(strict=strict)
            self.raised(reader, file + more, 0)
            self.same((reader.fed(), len(reader)), (len(file + more), 6))
            self.same(reader.state(), "broken" if strict and more else "done")

    def test_of_the_feeding_at_which_it_breaks(self):
        parts = plain_parts(GREY, 0, 2)
        deed, reader = Deed(), Reader()
        told = reader.feed(laid(parts[:2] + [spoilt(parts[2])]), seen=deed)
        self.same(deed.calls, LINES[:2])
        self.same(told, LINES[:2])
        self.same(reader.state(), "broken")

    def test_of_lines_behind_a_gap(self):
        parts = plain_parts(GREY, 0, 2)
        deed, reader = Deed(), Reader(strict=False)
        reader.feed(laid([parts[0], spoilt(parts[1])] + parts[2:]), seen=deed)
        self.same(deed.calls, LINES[2:])

    def test_what_it_tells_is_nothing(self):
        reader = Reader()
        self.same(reader.feed(written(GREY), seen=lambda number, pixels: "something"), LINES)
        reader = Reader()
        self.same(reader.feed(written(GREY), seen=lambda number, pixels: False), LINES)

    def test_by_name_alone(self):
        with self.assertRaises(TypeError):
            Reader().feed([], Deed())


class Raises(SeenCase):
    def test_it_stands_as_without_a_deed(self):
        file = written(NAMED, levels=1, each=2)
        rows = line_rows(NAMED, 1)
        for strict, cut in itertools.product((True, False), (len(file), len(file) - 3, 90)):
            for call in range(len(Reader(strict=strict).feed(file[:cut]))):
                reader, other = Reader(strict=strict), Reader(strict=strict)
                other.feed(file[:cut])
                ahead = self.raised(reader, file[:cut], call)
                self.same(ahead, list(enumerate(rows))[:call])
                self.same(self.asked(reader), self.asked(other))
                # The rest comes by the next feeding, ahead of others.
                told = reader.feed(file[cut:])
                self.same(told, list(enumerate(rows))[call:])
                other.feed(file[cut:])
                self.same(self.asked(reader), self.asked(other))
                self.same(reader.picture(), NAMED)
                self.same(reader.end(), [])

    def test_by_a_feeding_of_no_bytes(self):
        file = written(GREY, each=2)
        for strict, many, call in itertools.product((True, False), (len(file) - 1, len(file)), range(6)):
            reader = Reader(strict=strict)
            self.raised(reader, file[:many], call)
            self.same(reader.feed([]), LINES[call:])
            self.same(reader.feed([]), [])
            self.same((len(reader), reader.fed()), (6, many))

    def test_again_and_again(self):
        file = written(GREY, each=6)
        for strict in (True, False):
            reader = Reader(strict=strict)
            self.same(self.raised(reader, file, 0), [])
            self.same(self.raised(reader, [], 0), [])
            self.same(self.raised(reader, [], 1), LINES[:1])
            self.same(self.raised(reader, [], 3), LINES[1:4])
            deed = Deed()
            self.same(reader.feed([], seen=deed), LINES[4:])
            self.same(deed.calls, LINES[4:])
            self.same(reader.feed([], seen=deed), [])
            self.same(len(deed.calls), 2)

    def test_waiting_lines_come_ahead_of_new_ones(self):
        parts = plain_parts(GREY, 0, 2)
        for strict in (True, False):
            reader = Reader(strict=strict)
            self.raised(reader, laid(parts[:2]), 1)
            deed = Deed()
            self.same(reader.feed(parts[2], seen=deed), LINES[1:4])
            self.same(deed.calls, LINES[1:4])
            self.raised(reader, parts[3], 0)
            self.raised(reader, parts[4][:5], 0)
            self.same(reader.feed(parts[4][5:]), LINES[4:])
            self.same(reader.state(), "done")

    def test_whatever_error(self):
        file = written(GREY)
        for error in (Enough, ValueError, KeyError, StopIteration, Stopped, Torn(3), KeyboardInterrupt):
            reader = Reader()
            kind = error if isinstance(error, type) else type(error)
            with self.assertRaises(kind):
                reader.feed(file, seen=Deed(2, error))
            self.same((reader.state(), reader.place(), len(reader), reader.fed()), ("done", None, 6, len(file)))
            self.same(reader.feed([]), LINES[2:])

    def test_the_error_itself_goes_through(self):
        error = Enough("this one")
        with self.assertRaises(Enough) as caught:
            Reader().feed(written(GREY), seen=Deed(0, error))
        self.assertIs(caught.exception, error)


class Waiting(SeenCase):
    def test_an_ending_tells_them(self):
        file = written(GREY, each=2)
        for strict, call in itertools.product((True, False), range(6)):
            reader = Reader(strict=strict)
            self.raised(reader, file, call)
            self.same(reader.end(), LINES[call:])
            self.stopped(reader)
            self.same((reader.state(), len(reader)), ("done", 6))

    def test_an_ending_ahead_of_last_tells_them(self):
        parts = plain_parts(GREY, 0, 2)
        for call in range(4):
            reader = Reader(strict=False)
            self.raised(reader, laid(parts[:3]), call)
            self.same(reader.end(), LINES[call:4])
            self.same((reader.state(), reader.lost()), ("done", [4, 5]))
            self.stopped(reader)

    def test_a_refused_ending_leaves_them(self):
        parts = plain_parts(GREY, 0, 2)
        for call in range(4):
            reader = Reader()
            self.raised(reader, laid(parts[:3]), call)
            self.refused(Torn, reader, reader.end, at=len(laid(parts[:3])))
            self.refused(Stopped, reader, reader.end)
            self.refused(Stopped, reader, reader.feed, parts[3])
            self.same((reader.state(), len(reader)), ("broken", 4))
            self.same(reader.feed([]), LINES[call:4])
            self.stopped(reader)

    def test_a_broken_one(self):
        parts = plain_parts(GREY, 0, 2)
        wrong = raw("Wron", [])
        for strict, call in itertools.product((True, False), range(4)):
            reader = Reader(strict=strict)
            bytes_of = laid(parts[:3] + [wrong] + parts[3:])
            self.raised(reader, bytes_of, call)
            self.same((reader.state(), reader.place()), ("broken", len(laid(parts[:3]))))
            self.same((reader.fed(), len(reader)), (len(bytes_of), 4))
            self.refused(Stopped, reader, reader.feed, [0])
            self.refused(Stopped, reader, reader.end)
            # It takes feedings of no bytes as long as lines wait, with a deed that raises again, too.
            self.raised(reader, [], 0)
            deed = Deed()
            self.same(reader.feed([], seen=deed), LINES[call:4])
            self.same(deed.calls, LINES[call:4])
            self.same(reader.fed(), len(bytes_of))
            self.stopped(reader)

    def test_one_that_breaks_while_lines_wait(self):
        parts = plain_parts(GREY, 0, 2)
        for strict in (True, False):
            reader = Reader(strict=strict)
            self.raised(reader, laid(parts[:3]), 1)
            self.same(reader.feed([255, 255]), LINES[1:4])
            self.same(reader.state(), "broken")
            self.stopped(reader)

    def test_a_done_one(self):
        file = written(GREY, each=2)
        for strict in (True, False):
            reader = Reader(strict=strict)
            self.raised(reader, file, 3)
            self.same(reader.state(), "done")
            self.same(reader.picture(), GREY)
            self.raised(reader, [], 0)
            self.same(reader.feed([]), LINES[3:])
            # It wasn't ended, so it takes no bytes anyway.
            self.same(reader.feed([]), [])
            self.same(reader.end(), [])
            self.stopped(reader)

    def test_a_done_one_is_fed_more(self):
        file = written(GREY, each=2)
        reader = Reader(strict=False)
        self.raised(reader, file, 4)
        self.same(reader.feed([1, 2, 3]), LINES[4:])
        self.same((reader.state(), reader.fed()), ("done", len(file) + 3))
        reader = Reader()
        self.raised(reader, file, 4)
        self.same(reader.feed([1, 2, 3]), LINES[4:])
        self.same((reader.state(), reader.place(), reader.fed()), ("broken", len(file), len(file) + 3))
        reader = Reader()
        self.raised(reader, file, 4)
        self.raised(reader, [1, 2, 3], 0)
        self.same((reader.state(), reader.place()), ("broken", len(file)))
        self.same(reader.feed([]), LINES[4:])
        self.stopped(reader)

    def test_each_line_is_told_once_in_all(self):
        picture = any_picture(("colour",), 5, 9)
        file = written(picture, levels=2, each=3)
        for every in (1, 2, 3, 5):
            reader, told, calls = Reader(), [], 0

            def seen(number, pixels):
                nonlocal calls
                calls += 1
                if calls % (every + 1) == 0:
                    raise Enough
                called.append((number, pixels))

            for at in range(0, len(file), 30):
                called = []
                try:
                    told += reader.feed(file[at:at + 30], seen=seen)
                except Enough:
                    told += called
            told += reader.end()
            self.same(told, list(enumerate(line_rows(picture, 2))))
