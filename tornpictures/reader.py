"""Readers: files read in pieces, cut anywhere."""

from tornpictures.chunks import end_at, parts_of
from tornpictures.errors import Broken, NoBytes, NotYet, Stopped, Torn
from tornpictures.gathering import Gathering
from tornpictures.wholes import is_bytes

MARK = (84, 80, 13, 10)


class Reader:
    """Is fed a file in pieces, and tells what it has of the picture as far as it goes."""

    def __init__(self, *, strict=True):
        self.strict = strict
        self.known = []
        self.begin = 0
        self.broken_at = None
        self.ended = False
        self.waiting = []
        self.gathered = Gathering(strict)

    def feed(self, piece, *, seen=None):
        """Takes a piece; tells the lines newly told as tuples (number, pixels), calling seen for each."""
        if not is_bytes(piece):
            raise NoBytes("a piece is a list of bytes")
        if self.is_over() and (len(piece) > 0 or len(self.waiting) == 0):
            raise Stopped("the reader is broken or ended")
        self.known.extend(piece)
        self.take_whole_ones()
        return self.tell(seen)

    def end(self):
        """No more pieces come; tells the lines that wait, or Torn."""
        if self.is_over():
            raise Stopped("the reader is broken or ended")
        if not self.gathered.closed:
            if self.strict or self.gathered.form is None:
                self.broken_at = self.begin
                raise Torn(self.begin)
            self.gathered.close()
        self.ended = True
        return self.tell(None)

    def is_over(self):
        return self.ended or self.broken_at is not None

    def take_whole_ones(self):
        """Takes all that is whole by now, up to where it breaks."""
        try:
            while not self.is_over() and self.take_next():
                pass
        except Broken as e:
            self.broken_at = e.at

    def take_next(self):
        """Takes the mark or a chunk where the next one is whole; tells whether it was; Broken."""
        if self.gathered.closed:
            self.take_behind()
            return False
        if self.begin == 0:
            return self.take_mark()
        end = end_at(self.known, self.begin)
        if end is None:
            return False
        name, body, right = parts_of(self.known, self.begin, end)
        self.waiting.extend(self.gathered.take_chunk(self.begin, end, name, body, right))
        self.begin = end
        return True

    def take_mark(self):
        if len(self.known) < len(MARK):
            return False
        if self.known[:len(MARK)] != list(MARK):
            raise Broken(0)
        self.begin = len(MARK)
        return True

    def take_behind(self):
        """What stands behind Last breaks a strict reader, another one passes over it."""
        if self.strict and self.begin < len(self.known):
            raise Broken(self.begin)

    def tell(self, seen):
        """The lines that wait; one waits on until seen was called for it without an error."""
        told = []
        while len(self.waiting) > 0:
            number, pixels = self.waiting[0]
            if seen is not None:
                seen(number, pixels)
            told.append((number, pixels))
            del self.waiting[0]
        return told

    def state(self):
        """Its state: "new", "open", "done" or "broken"."""
        if self.broken_at is not None:
            return "broken"
        if self.gathered.closed:
            return "done"
        return "new" if self.gathered.form is None else "open"

    def fed(self):
        """How many bytes it was fed."""
        return len(self.known)

    def place(self):
        """The place at which it is broken, else None."""
        return self.broken_at

    def passed(self):
        """The places of the chunks that it passed over because they aren't right."""
        return [begin for word, begin, end, first, many in self.gathered.entries if word == "passed"]

    def lost(self):
        """The numbers of the lines that are known to be lost; a strict reader passes over none."""
        return [] if self.strict else self.gathered.lacking()

    def shape(self):
        """The kind, width, height and levels, None until they are known."""
        return self.gathered.form

    def picture(self):
        """The picture, or NotYet."""
        if self.state() != "done" or len(self.lost()) > 0:
            raise NotYet("the reader isn't done, or lines are lost")
        return self.gathered.shown()

    def whole(self):
        """How many first passes are whole."""
        return self.gathered.whole_passes()

    def coarse(self):
        """The coarse picture behind the whole passes, or NotYet."""
        if self.whole() == 0:
            raise NotYet("no pass is whole")
        return self.gathered.shown_coarse()

    def __len__(self):
        return len(self.gathered.rows)


def read_whole(thing, *, strict):
    """A reader that has read the whole of whatever thing and is done, or Broken with its place."""
    reader = Reader(strict=strict)
    try:
        reader.feed(thing)
        reader.end()
    except NoBytes:
        raise Broken(0) from None
    except (Stopped, Torn):
        raise Broken(reader.place()) from None
    return reader
