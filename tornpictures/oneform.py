"""The one form to which all files of one picture and levels come."""

from tornpictures.files import written
from tornpictures.reader import read_whole

LINES_EACH = 8


def one_form(file):
    """The bytes of the one form of a file, or Broken."""
    reader = read_whole(file, strict=True)
    return written(reader.picture(), levels=reader.shape()[3], each=LINES_EACH)
