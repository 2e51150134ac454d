"""Accounts: what a reader that isn't strict makes of each chunk of a file."""

from tornpictures.errors import Broken
from tornpictures.reader import MARK, read_whole
from tornpictures.wholes import is_whole


def account(thing):
    """The account of whatever thing is a file, tuples (word, begin, end, first, many), or Broken."""
    reader = read_whole(thing, strict=False)
    return [("mark", 0, len(MARK), 0, 0), *reader.gathered.entries]


def is_entry(thing):
    """Whether whatever thing is of an entry's kinds."""
    if not isinstance(thing, tuple) or len(thing) != 5 or not isinstance(thing[0], str):
        return False
    return all([is_whole(part) for part in thing[1:]])


def lets_account(thing, account_of):
    """Whether account_of, whatever it is, is the account of the thing."""
    # Python takes truths as equal to 0 and 1, so the kinds are asked ahead of the values.
    if not isinstance(account_of, list) or not all([is_entry(part) for part in account_of]):
        return False
    try:
        return account_of == account(thing)
    except Broken:
        return False
