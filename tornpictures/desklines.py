"""The lines of a desk: their words, and what the deeds of readers and sheaves answer."""

from tornpictures.bytetexts import read_bytes, show_bytes
from tornpictures.errors import NoLine, NoText
from tornpictures.figures import is_number
from tornpictures.oneform import one_form
from tornpictures.picturetexts import show_picture

MOST_FIGURES = 9
NONE = "-"
OK = "ok"
# For each first word the sorts of the words behind it.
WORDS = {
    "open": ("new", "way"), "sheaf": ("new", "hex"), "drop": ("thing",), "all": (),
    "feed": ("reader", "hex"), "end": ("reader",), "state": ("reader",), "place": ("reader",), "passed": ("reader",),
    "lost": ("reader",), "whole": ("reader",), "shape": ("reader",), "picture": ("reader",), "coarse": ("reader",),
    "put": ("sheaf", "number", "chunk", "hex"), "take": ("sheaf", "number"), "call": ("sheaf", "number", "chunk"),
    "part": ("sheaf", "number", "number"), "unite": ("sheaf", "number"), "undo": ("sheaf",), "names": ("sheaf",),
    "file": ("sheaf",), "form": ("sheaf",),
}


def words_of(line):
    """The words of whatever line a desk knows, or NoLine."""
    if not isinstance(line, str):
        raise NoLine("a line is a text")
    words = line.split(" ")
    if words[0] not in WORDS or len(words) != len(WORDS[words[0]]) + 1:
        raise NoLine("not a line that a desk knows")
    return words


def bytes_meant(word):
    if word == NONE:
        return []
    if word == "":
        raise NoText(0)
    return read_bytes(word)


def meant(sort, word):
    """What a word of this sort means, or NoText; names of all sorts mean themselves."""
    if sort == "hex":
        return bytes_meant(word)
    if sort == "number":
        if not is_number(word, MOST_FIGURES):
            raise NoText(0)
        return int(word)
    if sort == "way" and word not in ("strict", "loose"):
        raise NoText(0)
    return word


def listed(things):
    """Words, or numbers, with blanks between; the word for none where there are none."""
    if len(things) == 0:
        return NONE
    return " ".join([str(thing) for thing in things])


def listed_lines(told):
    return listed([number for number, pixels in told])


def say_feed(reader, given):
    return listed_lines(reader.feed(given[0]))


def say_end(reader, given):
    return listed_lines(reader.end())


def say_state(reader, given):
    return reader.state()


def say_place(reader, given):
    place = reader.place()
    return NONE if place is None else str(place)


def say_passed(reader, given):
    return listed(reader.passed())


def say_lost(reader, given):
    return listed(reader.lost())


def say_whole(reader, given):
    return str(reader.whole())


def say_shape(reader, given):
    shape = reader.shape()
    return NONE if shape is None else listed(shape[1:])


def say_picture(reader, given):
    return show_picture(reader.picture())[:-1]


def say_coarse(reader, given):
    return show_picture(reader.coarse())[:-1]


def say_put(sheaf, given):
    sheaf.put(given[0], given[1], given[2])
    return OK


def say_take(sheaf, given):
    sheaf.take(given[0])
    return OK


def say_call(sheaf, given):
    sheaf.call(given[0], given[1])
    return OK


def say_part(sheaf, given):
    sheaf.part(given[0], given[1])
    return OK


def say_unite(sheaf, given):
    sheaf.unite(given[0])
    return OK


def say_undo(sheaf, given):
    sheaf.back()
    return OK


def say_names(sheaf, given):
    return listed(sheaf.names())


def say_file(sheaf, given):
    return show_bytes(sheaf.file())


def say_form(sheaf, given):
    return show_bytes(one_form(sheaf.file()))


DEEDS = {
    "feed": say_feed, "end": say_end, "state": say_state, "place": say_place, "passed": say_passed, "lost": say_lost,
    "whole": say_whole, "shape": say_shape, "picture": say_picture, "coarse": say_coarse, "put": say_put,
    "take": say_take, "call": say_call, "part": say_part, "unite": say_unite, "undo": say_undo, "names": say_names,
    "file": say_file, "form": say_form,
}


def answer(word, thing, given):
    """What the reader or sheaf answers to a line of this first word."""
    deed = DEEDS[word]
    return deed(thing, given)
