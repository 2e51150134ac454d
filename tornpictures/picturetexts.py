"""Pictures, written in lines of words and read back."""

from tornpictures.bytetexts import read_bytes, show_bytes
from tornpictures.errors import NoText
from tornpictures.figures import is_number
from tornpictures.pictures import is_kind, is_pixel, is_side

MOST_FIGURES = 3
# How many numbers stand behind the first word: the width and the height, and the depth where there is one.
NUMBERS = {"grey": 3, "colour": 2, "named": 3}


def show_pixel(pixel):
    """The word for a pixel, which is a colour or a number."""
    if isinstance(pixel, tuple):
        return show_bytes(pixel)
    return str(pixel)


def head_words(kind, width, height):
    """The words of the first line."""
    numbers = [width, height] if kind[0] == "colour" else [kind[1], width, height]
    colours = kind[2] if kind[0] == "named" else ()
    return [kind[0]] + [str(number) for number in numbers] + [show_bytes(colour) for colour in colours]


def show_picture(picture):
    """The text of the picture."""
    kind, width, height, rows = picture
    told = [head_words(kind, width, height)] + [[show_pixel(pixel) for pixel in row] for row in rows]
    return "".join([" ".join(words) + "\n" for words in told])


def number_from(word, line):
    """The number that a word of this line writes, or NoText."""
    if not is_number(word, MOST_FIGURES):
        raise NoText(line)
    return int(word)


def colour_from(word, line):
    """The colour that a word of this line writes, or NoText."""
    try:
        told = read_bytes(word)
    except NoText:
        raise NoText(line) from None
    if len(told) != 3:
        raise NoText(line)
    return tuple(told)


def pixel_from(kind, word, line):
    """The pixel that a word of this line writes, or NoText."""
    if kind[0] == "colour":
        return colour_from(word, line)
    told = number_from(word, line)
    if not is_pixel(kind, told):
        raise NoText(line)
    return told


def words_at(told, line):
    """The words of a line, or NoText where it lacks."""
    if line >= len(told):
        raise NoText(line)
    return told[line].split(" ")


def head_from(words):
    """The kind, the width and the height that the first line tells, or NoText."""
    many = NUMBERS.get(words[0], 0)
    if many == 0 or len(words) < many + 1:
        raise NoText(0)
    *depth, width, height = [number_from(word, 0) for word in words[1:many + 1]]
    colours = tuple([colour_from(word, 0) for word in words[many + 1:]])
    kind = (words[0], *depth)
    # Colours behind a kind without a palette make it none, as a palette without colours does.
    if words[0] == "named" or len(colours) > 0:
        kind = (*kind, colours)
    if not is_kind(kind) or not is_side(width) or not is_side(height):
        raise NoText(0)
    return (kind, width, height)


def row_from(kind, width, words, line):
    """The row of pixels that the words of a line tell, or NoText."""
    if len(words) != width:
        raise NoText(line)
    return tuple([pixel_from(kind, word, line) for word in words])


def read_picture(text):
    """The picture that whatever text is written from, or NoText."""
    if not isinstance(text, str):
        raise NoText(0)
    # Behind the last line end stands nothing, or a line without an end, which can't be.
    *told, rest = text.split("\n")
    kind, width, height = head_from(words_at(told, 0))
    rows = [row_from(kind, width, words_at(told, line), line) for line in range(1, height + 1)]
    if len(told) > height + 1 or rest != "":
        raise NoText(height + 1)
    return (kind, width, height, tuple(rows))
