"""Numbers and bytes as texts of 0 and 1, the greatest bit first."""


def bits_of(number, many):
    """The number, written by so many signs."""
    return "".join([str((number >> at) & 1) for at in range(many - 1, -1, -1)])


def number_of(text):
    """The number that the text writes, 0 of no signs."""
    told = 0
    for sign in text:
        told = 2 * told + int(sign)
    return told


def bytes_from(text):
    """The bytes of the bits, the last one filled up with 0s."""
    parts = [text[at:at + 8] for at in range(0, len(text), 8)]
    return [number_of(part) << (8 - len(part)) for part in parts]


def bits_from(bytes_of):
    """The bits of the bytes, eight signs for each."""
    return "".join([bits_of(byte, 8) for byte in bytes_of])
