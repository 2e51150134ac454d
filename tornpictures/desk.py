"""A desk: readers and sheaves by names, led by lines of words."""

from tornpictures.chunks import SMALL_LETTERS
from tornpictures.desklines import OK, WORDS, answer, listed, meant, words_of
from tornpictures.errors import Full, NoName, Taken, Unknown
from tornpictures.reader import Reader
from tornpictures.sheaf import Sheaf

MOST_THINGS = 8
LONGEST_NAME = 8


def is_name(word):
    return 1 <= len(word) <= LONGEST_NAME and all([sign in SMALL_LETTERS for sign in word])


def is_of(sort, thing):
    """Whether a reader or sheaf is of the sort that a line wants."""
    if sort == "reader":
        return isinstance(thing, Reader)
    if sort == "sheaf":
        return isinstance(thing, Sheaf)
    return True


class Desk:
    """Is told lines, and answers each with a text."""

    def __init__(self):
        self.kept = {}

    def say(self, line):
        """The answer to a line; refused by the order: its words, how they are written, its names, its deed."""
        word, *rest = words_of(line)
        sorts = WORDS[word]
        given = [meant(sort, part) for sort, part in zip(sorts, rest)]
        if word == "all":
            return listed(sorted([name for name in self.kept]))
        if sorts[0] == "new":
            return self.begin_new(word, given[0], given[1])
        thing = self.find_thing(sorts[0], given[0])
        if word == "drop":
            del self.kept[given[0]]
            return OK
        return answer(word, thing, given[1:])

    def begin_new(self, word, name, given):
        """A new reader, strict or loose, or a new sheaf of bytes."""
        if not is_name(name):
            raise NoName("a name is one to eight small letters")
        if name in self.kept:
            raise Taken("something stands by this name")
        if len(self.kept) >= MOST_THINGS:
            raise Full("a desk keeps at most eight things")
        self.kept[name] = Reader(strict=given == "strict") if word == "open" else Sheaf(given)
        return OK

    def find_thing(self, sort, name):
        if name not in self.kept or not is_of(sort, self.kept[name]):
            raise Unknown(name)
        return self.kept[name]
