"""What a whole number, a byte and a list of bytes are, asked of whatever thing."""


def is_whole(thing):
    """Python counts truths as ints; here a truth is no whole number."""
    return isinstance(thing, int) and not isinstance(thing, bool)


def is_byte(thing):
    return is_whole(thing) and 0 <= thing <= 255


def is_bytes(thing):
    return isinstance(thing, list) and all([is_byte(part) for part in thing])
