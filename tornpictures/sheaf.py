"""Sheaves: the chunks of a file, edited without a change of the picture."""

from tornpictures.blocks import block
from tornpictures.bodies import lines_body
from tornpictures.chunks import LONGEST_BODY, from_two, is_chunk_name, is_small
from tornpictures.errors import Beyond, Full, NoBack, NoBytes, NoName, NoPlace
from tornpictures.files import file_of, length_of_file, parts_in
from tornpictures.reader import read_whole
from tornpictures.wholes import is_bytes, is_whole

LONGEST_FILE = 6000
MOST_UNITED = 40


def check_small(name):
    """Refuses whatever is no name of a chunk that may be passed over."""
    if not is_chunk_name(name) or not is_small(name):
        raise NoName("not the name of a chunk that may be passed over")


class Sheaf:
    """Has the chunks of a file, numbered from 0."""

    def __init__(self, file):
        reader = read_whole(file, strict=True)
        self.drawn = reader.picture()
        self.levels = reader.shape()[3]
        self.parts = parts_in(file)
        self.past = []

    def put(self, at, name, body):
        """A chunk that may be passed over comes ahead of the one numbered at."""
        self.check_number(at)
        check_small(name)
        if not is_bytes(body) or len(body) > LONGEST_BODY:
            raise NoBytes("a body is a list of at most 3,000 bytes")
        if at == 0:
            raise NoPlace("nothing stands ahead of Head")
        self.exchange(at, 0, [(name, list(body))])

    def take(self, at):
        """A chunk that may be passed over is taken out."""
        self.check_number(at)
        check_small(self.parts[at][0])
        self.exchange(at, 1, [])

    def call(self, at, name):
        """A chunk that may be passed over is called so."""
        self.check_number(at)
        check_small(name)
        check_small(self.parts[at][0])
        self.exchange(at, 1, [(name, self.parts[at][1])])

    def part(self, at, many):
        """A Body is parted in two, the first one of so many lines."""
        self.check_number(at)
        first, total = self.lines_at(at)
        if not is_whole(many) or not 1 <= many < total:
            raise NoPlace("there must be a line on either side")
        self.exchange(at, 1, [self.made(first, many), self.made(first + many, total - many)])

    def unite(self, at):
        """A Body and the next one become one."""
        self.check_number(at)
        first, many = self.lines_at(at)
        # Behind a Body there is always a chunk, at least Last.
        total = many + self.lines_at(at + 1)[1]
        if total > MOST_UNITED:
            raise NoPlace("more than 40 lines")
        self.exchange(at, 2, [self.made(first, total)])

    def back(self):
        """Takes back the last deed that wasn't taken back yet, or NoBack."""
        if len(self.past) == 0:
            raise NoBack("there is no deed to take back")
        self.parts = self.past.pop()

    def check_number(self, at):
        if not is_whole(at) or not 0 <= at < len(self.parts):
            raise Beyond(0)

    def lines_at(self, at):
        """The first line of a Body and how many it has, or NoName where the chunk is none."""
        name, body = self.parts[at]
        if name != "Body":
            raise NoName("not a Body")
        return (from_two(body, 0), body[2])

    def made(self, first, many):
        """A new Body of these lines, written by the rules."""
        return ("Body", lines_body(self.drawn, self.levels, first, many, block))

    def exchange(self, at, many, others):
        """Others come in place of so many chunks, where the file doesn't become too long."""
        parts = self.parts[:at] + others + self.parts[at + many:]
        if length_of_file(parts) > LONGEST_FILE:
            raise Full("a file of more than 6,000 bytes")
        self.past.append(self.parts)
        self.parts = parts

    def names(self):
        """The names of the chunks."""
        return [name for name, body in self.parts]

    def body(self, at):
        """The body of the chunk numbered at, or Beyond."""
        self.check_number(at)
        return list(self.parts[at][1])

    def file(self):
        """The bytes of the file."""
        return file_of(self.parts)

    def __len__(self):
        return len(self.parts)

    def __eq__(self, other):
        return isinstance(other, Sheaf) and self.parts == other.parts
