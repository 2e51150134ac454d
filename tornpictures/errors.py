"""The refusals of the program, one class for each kind."""


class PictureError(ValueError):
    """The base of most refusals; Beyond and Unknown stand apart from it."""


class NoRow(PictureError):
    """Bytes that are no written row of pixels."""


class NoBytes(PictureError):
    """A thing that is no list of bytes where one is wanted."""


class NoBlock(PictureError):
    """A thing that is no block."""


class Stopped(PictureError):
    """A reader that is broken or ended is to go on."""


class NotYet(PictureError):
    """A reader doesn't have the picture that is asked for."""


class NoName(PictureError):
    """A name that is none, or not one of the sort that is wanted."""


class NoPlace(PictureError):
    """A place or a number of lines that a deed can't have."""


class NoBack(PictureError):
    """There is no deed left to take back."""


class Taken(PictureError):
    """A new name by which something stands already."""


class Full(PictureError):
    """There is no room for more."""


class NoLine(PictureError):
    """A line that a desk doesn't know."""


class NoLines(PictureError):
    """Bytes that are no section; `at` is the line in it that can't be read."""

    def __init__(self, at):
        super().__init__(f"the section can't go on at its line {at}")
        self.at = at


class NoSaying(PictureError):
    """A thing that is no saying; `at` is its first tuple that can't be."""

    def __init__(self, at):
        super().__init__(f"the saying can't be at its tuple {at}")
        self.at = at


class NoCode(PictureError):
    """A text that isn't coded so; `at` is where the wrong code begins."""

    def __init__(self, at):
        super().__init__(f"no code begins at place {at}")
        self.at = at


class Broken(PictureError):
    """A file that can't be read; `at` is the place of its first wrong chunk."""

    def __init__(self, at):
        super().__init__(f"the file is broken at place {at}")
        self.at = at


class Torn(PictureError):
    """A file that ends too early; `at` is the place of the chunk that isn't whole."""

    def __init__(self, at):
        super().__init__(f"the file is torn at place {at}")
        self.at = at


class NoText(PictureError):
    """A text that isn't written as it must be; `line` is its first wrong line."""

    def __init__(self, line):
        super().__init__(f"the text can't be at its line {line}")
        self.line = line


class Beyond(IndexError):
    """A number that is beyond what is there; `at` tells which one was asked."""

    def __init__(self, at):
        super().__init__(f"number {at} of those asked is beyond what is there")
        self.at = at


class Unknown(LookupError):
    """A name by which nothing of the wanted sort stands; `name` is what was asked."""

    def __init__(self, name):
        super().__init__(f"nothing of this sort stands by the name {name}")
        self.name = name
