"""What the chunks of a file tell, gathered one behind the other: a shape, and lines."""

from tornpictures.bodies import head_from, lines_from, palette_from
from tornpictures.chunks import is_chunk_name, is_small
from tornpictures.coarse import coarse
from tornpictures.errors import Broken
from tornpictures.lines import lines
from tornpictures.passes import together


class Gathering:
    """Takes whole chunks in turn. What can't be is Broken; one that isn't strict passes over what it may."""

    def __init__(self, strict):
        self.strict = strict
        self.header = None
        self.form = None
        self.plan = []
        self.rows = {}
        self.behind = 0
        self.closed = False
        self.entries = []

    def take_chunk(self, begin, end, name, body, right):
        """Takes a chunk, and tells its lines as tuples (number, pixels); Broken changes nothing."""
        word, first, pixels = self.meaning(begin, name, body, right)
        self.entries.append((word, begin, end, first, len(pixels)))
        told = list(enumerate(pixels, first))
        for number, row in told:
            self.rows[number] = row
            self.behind = number + 1
        return told

    def meaning(self, at, name, body, right):
        """The account's word for a chunk, its first line, and its lines; none but Bodies have lines."""
        if not right and not self.strict:
            return ("passed", 0, [])
        if not right or not is_chunk_name(name):
            raise Broken(at)
        if is_small(name):
            return self.note_meaning(at)
        if name == "Head":
            return self.head_meaning(at, body)
        if name == "Pale":
            return self.pale_meaning(at, body)
        if self.form is None:
            raise Broken(at)
        if name == "Body":
            return self.body_meaning(at, body)
        if name == "Last":
            return self.last_meaning(at, body)
        raise Broken(at)

    def note_meaning(self, at):
        if self.strict and self.header is None:
            raise Broken(at)
        return ("note", 0, [])

    def head_meaning(self, at, body):
        if self.header is not None:
            raise Broken(at)
        self.header = head_from(body, at)
        word, depth, width, height, levels = self.header
        if word == "grey":
            self.shape_up((word, depth))
        if word == "colour":
            self.shape_up((word,))
        return ("head", 0, [])

    def pale_meaning(self, at, body):
        # Ahead of Head there is no header; where a palette isn't wanted, or was there, there is a form.
        if self.header is None or self.form is not None:
            raise Broken(at)
        word, depth, width, height, levels = self.header
        self.shape_up((word, depth, palette_from(body, depth, at)))
        return ("pale", 0, [])

    def shape_up(self, kind):
        """The kind is known, so all of the shape is, and which lines there are."""
        word, depth, width, height, levels = self.header
        self.form = (kind, width, height, levels)
        self.plan = lines(width, height, levels)

    def body_meaning(self, at, body):
        try:
            first, pixels = lines_from(self.form, body, at)
            self.check_turn(at, first)
        except Broken:
            if self.strict:
                raise
            return ("passed", 0, [])
        return ("body", first, pixels)

    def check_turn(self, at, first):
        if first < self.behind or (self.strict and first > self.behind):
            raise Broken(at)

    def last_meaning(self, at, body):
        if len(body) > 0 or (self.strict and self.behind < len(self.plan)):
            raise Broken(at)
        self.closed = True
        return ("last", 0, [])

    def close(self):
        """No more chunks come, though Last wasn't there."""
        self.closed = True

    def lacking(self):
        """The lines that are known to be lost: nothing comes behind the end, nor ahead of what was taken."""
        known = len(self.plan) if self.closed else self.behind
        return [number for number in range(known) if number not in self.rows]

    def whole_passes(self):
        """How many first passes have all of their lines, 0 without a shape."""
        if self.form is None:
            return 0
        torn = [part for number, (part, row, length) in enumerate(self.plan) if number not in self.rows]
        return min([2 * self.form[3] + 1, *torn])

    def pass_rows(self, many):
        """The rows of the first so many passes, which must be whole."""
        told = [[] for part in range(many)]
        for number, (part, row, length) in enumerate(self.plan):
            if part < many:
                told[part].append(self.rows[number])
        return told

    def shown(self):
        """The picture; all lines must be there."""
        kind, width, height, levels = self.form
        return together(kind, width, height, levels, self.pass_rows(2 * levels + 1))

    def shown_coarse(self):
        """The coarse picture behind the whole passes; one at least must be whole."""
        kind, width, height, levels = self.form
        return coarse(kind, width, height, levels, self.pass_rows(self.whole_passes()))
