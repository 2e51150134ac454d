"""Files by other writers, broken files, and what readers must make of them, told anew from the document."""

import random

from tests.samples import any_bytes, any_picture, byte_by_byte, palette
from tests.test_blocks import block_of
from tests.test_sections import joined, section_by
from tornpictures.blocks import packed, unpacked
from tornpictures.cheapest import cheapest
from tornpictures.counts import lengths
from tornpictures.errors import Beyond, NoBlock, NoLines
from tornpictures.lines import line_rows, lines
from tornpictures.pictures import is_kind
from tornpictures.sections import section_lines
from tornpictures.stretches import said

MARK = [84, 80, 13, 10]
WORDS = ("grey", "colour", "named")
KNOWN = ("Head", "Pale", "Body", "Last")
SMALL_NAMES = ("note", "text", "abcd", "zZZZ", "aAzZ")


def right_check(checked):
    a, b = 1, 0
    for byte in checked:
        a = (a + byte) % 997
        b = (b + a) % 997
    return [b // 256, b % 256, a // 256, a % 256]


def raw(name, body):
    """A chunk with its right length and check; its name is a text or whatever four bytes."""
    checked = (list(name.encode("ascii")) if isinstance(name, str) else list(name)) + list(body)
    return [len(body) // 256, len(body) % 256] + checked + right_check(checked)


def spoilt(part, at=-1, more=1):
    """The chunk with another byte in its name, body or check, so that the check isn't right."""
    told = list(part)
    told[at] = (told[at] + more) % 256
    return told


def laid(parts):
    """The file of the chunks, each a list of bytes."""
    return MARK + joined(parts)


def places(parts):
    """The place of each chunk's first byte, and of the end."""
    told = [4]
    for part in parts:
        told.append(told[-1] + len(part))
    return told


def head_bytes(picture, levels):
    kind, width, height, rows = picture
    return [WORDS.index(kind[0]), 8 if kind[0] == "colour" else kind[1], width, height, levels, 0]


def heads(picture, levels):
    """Head, and Pale where one is wanted."""
    told = [raw("Head", head_bytes(picture, levels))]
    if picture[0][0] == "named":
        told.append(raw("Pale", joined(picture[0][2])))
    return told


def body_with(first, many, block):
    return raw("Body", [first // 256, first % 256, many] + block)


def plain_body(picture, levels, first, many, number=0):
    """A Body by one filter throughout, in a plain block."""
    section = joined(section_by(picture, levels, first, many, lambda row, above, step: number))
    return body_with(first, many, [0] + section)


def plain_parts(picture, levels, each):
    """All chunks of a file, Bodies of so many lines each, plain."""
    total = len(line_rows(picture, levels))
    bodies = [
        plain_body(picture, levels, first, min(each, total - first), first % 5) for first in range(0, total, each)
    ]
    return heads(picture, levels) + bodies + [raw("Last", [])]


def any_block(bytes_of, chance):
    """A block of the bytes by one of many writers: plain, or packed by other sayings and other lengths."""
    way = chance.randrange(4)
    if way == 0:
        return [0] + bytes_of
    if way == 1:
        return packed(bytes_of)
    saying = byte_by_byte(bytes_of) if way == 2 else said(bytes_of)
    if len(bytes_of) <= 60 and chance.randrange(2):
        saying = cheapest(bytes_of)
    signs = {part[1] if part[0] == "byte" else 256 for part in saying} | {257}
    signs |= {chance.randrange(258) for turn in range(chance.randrange(20))}
    return block_of(lengths([(sign, chance.randrange(1, 50)) for sign in sorted(signs)]), saying)


def any_notes(chance):
    return [raw(chance.choice(SMALL_NAMES), any_bytes(chance.randrange(9), chance)) for turn in range(chance.randrange(3))]


def any_parts(picture, levels, chance, most=45):
    """The chunks of a file by another writer: any sections, filters, blocks, and small chunks anywhere."""
    total = len(line_rows(picture, levels))
    told, first = [], 0
    for part in heads(picture, levels):
        told += [part] + any_notes(chance)
    while first < total:
        many = chance.randrange(1, min(most, total - first) + 1)
        section = joined(section_by(picture, levels, first, many, lambda row, above, step: chance.randrange(5)))
        told += [body_with(first, many, any_block(section, chance))] + any_notes(chance)
        first += many
    return told + [raw("Last", [])]


def cut(bytes_of, chance, longest):
    """The bytes in pieces, some of them of no bytes."""
    told, at = [], 0
    while at < len(bytes_of):
        many = chance.randrange(longest + 1)
        told.append(bytes_of[at:at + many])
        at += many
    return told + [[]]


# What the document requires of a reader that was fed so many bytes, told from the beginning each time.


def kind_in(body):
    """Word, depth, width, height and levels of a Head, None of one that tells no picture."""
    if len(body) != 6 or body[0] > 2 or body[1] not in (1, 2, 4, 8) or body[4] > 3 or body[5] != 0:
        return None
    if not 1 <= body[2] <= 24 or not 1 <= body[3] <= 24 or (body[0] == 1 and body[1] != 8):
        return None
    return (WORDS[body[0]],) + tuple(body[1:5])


def lines_in(shape, body):
    """The first line and the lines of a Body, None of one that isn't right by itself."""
    if len(body) < 4:
        return None
    first, many = body[0] * 256 + body[1], body[2]
    try:
        bytes_of = unpacked(body[3:])
        return first, section_lines(*shape[:3], bytes_of, levels=shape[3], first=first, many=many)
    except (NoBlock, NoLines, Beyond):
        return None


def wanted(bytes_of, *, strict, ended=False):
    """All that a reader tells that was fed these bytes, as a dict; "torn" is the place of a refused ending."""
    told = {"lines": [], "passed": [], "shape": None, "place": None, "account": [], "torn": None}
    told["last"] = False
    told["at"] = 0
    walk(bytes_of, strict, told)
    if ended and told["place"] is None and not told["last"]:
        if strict or told["shape"] is None:
            told["torn"] = told["place"] = told["at"]
        else:
            told["last"] = True
    told["state"] = "new" if told["shape"] is None else "open"
    if told["place"] is not None:
        told["state"] = "broken"
    elif told["last"]:
        told["state"] = "done"
    told["lost"], told["whole"] = [], 0
    if told["shape"] is not None:
        numbers = [number for number, pixels in told["lines"]]
        plan = lines(*told["shape"][1:])
        known = len(plan) if told["state"] == "done" else max([-1] + numbers) + 1
        if not strict:
            told["lost"] = [number for number in range(known) if number not in numbers]
        while told["whole"] < 2 * told["shape"][3] + 1 and all(
            number in numbers for number, line in enumerate(plan) if line[0] == told["whole"]
        ):
            told["whole"] += 1
    return told


def walk(bytes_of, strict, told):
    """Goes from chunk to chunk as far as they are whole; told["at"] is where it stands."""
    if len(bytes_of) < 4:
        return
    if bytes_of[:4] != MARK:
        told["place"] = 0
        return
    told["account"].append(("mark", 0, 4, 0, 0))
    told["at"], head = 4, None
    while told["place"] is None and not told["last"] and len(bytes_of) >= told["at"] + 2:
        at = told["at"]
        length = bytes_of[at] * 256 + bytes_of[at + 1]
        end = at + 10 + length
        if length > 3000:
            told["place"] = at
        if length > 3000 or end > len(bytes_of):
            return
        name, body = bytes(bytes_of[at + 2:at + 6]), bytes_of[at + 6:end - 4]
        word, first, pixels = "broken", 0, []
        if right_check(bytes_of[at + 2:end - 4]) != bytes_of[end - 4:end]:
            word = "broken" if strict else "passed"
        elif not name.isalpha():
            word = "broken"
        elif name[:1].islower():
            word = "broken" if strict and head is None else "note"
        elif name == b"Head" and head is None and kind_in(body):
            word, head = "head", kind_in(body)
            if head[0] != "named":
                told["shape"] = (head[:1] if head[0] == "colour" else head[:2],) + head[2:]
        elif name == b"Pale" and head and told["shape"] is None:
            kind = head[:2] + (tuple(tuple(body[k:k + 3]) for k in range(0, len(body), 3)),)
            if is_kind(kind):
                word, told["shape"] = "pale", (kind,) + head[2:]
        elif name == b"Body" and told["shape"]:
            word = "broken" if strict else "passed"
            behind = told["lines"][-1][0] + 1 if told["lines"] else 0
            inside = lines_in(told["shape"], body)
            if inside and (inside[0] == behind or (inside[0] > behind and not strict)):
                word, (first, pixels) = "body", inside
        elif name == b"Last" and told["shape"] and body == []:
            lacking = len(lines(*told["shape"][1:])) - len(told["lines"])
            word = "broken" if strict and lacking else "last"
        if word == "broken":
            told["place"] = at
            return
        told["account"].append((word, at, end, first, len(pixels)))
        told["lines"] += [(first + beside, row) for beside, row in enumerate(pixels)]
        told["passed"] += [at] if word == "passed" else []
        told["last"], told["at"] = word == "last", end
    if told["last"] and strict and len(bytes_of) > told["at"]:
        told["place"] = told["at"]


# Files that are broken, one for each reason.

GREY = any_picture(("grey", 4), 5, 6)
NAMED = any_picture(("named", 2, palette(3)), 4, 4)


def head_with(picture, levels, at, byte):
    """A Head of which one byte is another one."""
    body = head_bytes(picture, levels)
    body[at] = byte
    return raw("Head", body)


def broken_heads():
    """Heads that tell no picture, each of the six bytes, and other lengths."""
    colour = any_picture(("colour",), 2, 2)
    for picture in (GREY, NAMED, colour):
        yield from [("a Head of another sort", head_with(picture, 0, 0, byte)) for byte in (3, 4, 255)]
        yield from [("a Head of another depth", head_with(picture, 0, 1, byte)) for byte in (0, 3, 5, 6, 7, 9, 16, 255)]
        yield from [("a Head of another width", head_with(picture, 0, 2, byte)) for byte in (0, 25, 255)]
        yield from [("a Head of another height", head_with(picture, 0, 3, byte)) for byte in (0, 25, 255)]
        yield from [("a Head of other levels", head_with(picture, 0, 4, byte)) for byte in (4, 5, 255)]
        yield from [("a Head that ends otherwise", head_with(picture, 0, 5, byte)) for byte in (1, 255)]
        yield from [("a Head too short", raw("Head", head_bytes(picture, 0)[:many])) for many in range(6)]
        yield from [("a Head too long", raw("Head", head_bytes(picture, 0) + [0] * many)) for many in (1, 6)]
    yield from [("a Head of colour, another depth", head_with(colour, 0, 1, byte)) for byte in (1, 2, 4)]


def broken_pales():
    """Pales that fit no palette of the depth 2."""
    for many in (0, 1, 2, 4, 5, 11, 13, 14, 15, 30, 300):
        yield (f"a Pale of {many} bytes", raw("Pale", [7] * many))


def broken_bodies(picture, levels, first, many):
    """Bodies that aren't right by themselves, in place of the right one of these lines."""
    right = plain_body(picture, levels, first, many)[6:-4]
    total = len(line_rows(picture, levels))
    for short in range(4):
        yield (f"a Body of {short} bytes", raw("Body", right[:short]))
    yield ("a Body of no lines", body_with(first, 0, [0]))
    yield ("a Body of no lines, with a section", body_with(first, 0, right[3:]))
    yield ("a Body of a line more", body_with(first, many + 1, right[3:]))
    yield ("a Body beyond the last line", body_with(first, total - first + 1, right[3:]))
    yield ("a Body of 255 lines", body_with(first, 255, right[3:]))
    yield ("a Body far beyond", body_with(65535, many, right[3:]))
    yield ("a Body right beyond", body_with(total, 1, right[3:]))
    yield ("a Body whose block begins otherwise", body_with(first, many, [2] + right[4:]))
    yield ("a Body whose block isn't packed so", body_with(first, many, [1] + right[4:]))
    yield ("a Body whose section lacks a byte", body_with(first, many, right[3:-1]))
    yield ("a Body whose section has a byte more", body_with(first, many, right[3:] + [0]))
    yield ("a Body of a filter that is none", body_with(first, many, [0, 5] + right[5:]))
    yield ("a Body of more than 2,000 bytes", body_with(first, many, [0] * 2002))
    yield ("a Body of no section", body_with(first, many, [0]))


def broken_files():
    """Tuples (why, bytes, at, how many first lines are told): files that are refused at a place."""
    for wrong in ([], [84], [84, 80, 13], [84, 80, 10, 13], [0, 80, 13, 10], [84, 81, 13, 10], [84, 80, 13, 11]):
        yield ("the mark", wrong, 0, 0)
        yield ("the mark ahead of a file", wrong + laid(plain_parts(GREY, 0, 2))[4:], 0, 0)
    for picture, levels in ((GREY, 0), (NAMED, 1)):
        yield from broken_by_chunks(picture, levels)
        yield from broken_by_ends(picture, levels)
    yield from broken_by_heads()


def broken_by_chunks(picture, levels):
    """What may be wrong with whichever chunk it is, and with the Bodies."""
    parts = plain_parts(picture, levels, 2)
    at, ahead = places(parts), len(heads(picture, levels))
    total = len(line_rows(picture, levels))

    def changed(number, part):
        return laid(parts[:number] + [part] + parts[number + 1:])

    def told(number):
        return min(max(number - ahead, 0) * 2, total)

    for number, part in enumerate(parts):
        where = (at[number], told(number))
        for byte in (2, 5, len(part) - 5, len(part) - 4, len(part) - 1):
            yield ("a check that isn't right", changed(number, spoilt(part, byte)), *where)
        yield ("a length above 3,000", changed(number, [11, 185] + part[2:] + [0] * 3001), *where)
        yield ("a length far above", changed(number, [255, 255] + part[2:]), *where)
        for name in ([66, 111, 100, 48], [0, 0, 0, 0], [110, 111, 116, 32], [91, 97, 97, 97], [96] * 4, [255] * 4):
            yield ("a name that is none", changed(number, raw(name, part[6:-4])), *where)
        for name in ("Note", "BODY", "Eads", "LAST", "Zzzz"):
            yield ("a great name that isn't known", changed(number, raw(name, part[6:-4])), *where)
        if number > 0:
            yield ("a second Head", laid(parts[:number] + parts[:1] + parts[number:]), *where)
        if number < len(parts) - 1:
            yield ("Last too early", laid(parts[:number] + parts[-1:]), *where)
            yield ("it is lacking", laid(parts[:number] + parts[number + 1:]), *where)
    for number in range(ahead, len(parts) - 1):
        first = told(number)
        for why, part in broken_bodies(picture, levels, first, 2):
            yield (why, changed(number, part), at[number], first)
        for other in range(ahead, len(parts) - 1):
            if other != number:
                yield ("a Body of other lines", changed(number, parts[other]), at[number], first)
    for body in ([0], [1, 2, 3]):
        yield ("a Last with a body", laid(parts[:-1] + [raw("Last", body)]), at[-2], total)


def broken_by_ends(picture, levels):
    """Files cut short, and files with more behind Last."""
    parts = plain_parts(picture, levels, 2)
    at, ahead, whole = places(parts), len(heads(picture, levels)), laid(parts)
    total = len(line_rows(picture, levels))
    for number, part in enumerate(parts):
        told = min(max(number - ahead, 0) * 2, total)
        for many in {0, 1, 2, 9, len(part) - 1}:
            yield ("a chunk that isn't whole, or the end", whole[:at[number] + many], at[number], told)
    for more in ([0], [255, 255], MARK, raw("note", []), raw("Last", []), whole):
        yield ("bytes behind Last", whole + more, len(whole), total)


def broken_by_heads():
    """What may be wrong with Head and Pale, and with what stands ahead of them."""
    grey, named = plain_parts(GREY, 0, 2), plain_parts(NAMED, 1, 2)
    for why, part in broken_heads():
        yield (why, laid([part] + grey[1:]), 4, 0)
        yield (why, laid([part]), 4, 0)
    for part in grey[1:] + named[1:] + [raw("note", []), raw("text", [1, 2])]:
        yield ("Head isn't first", laid([part] + grey), 4, 0)
        yield ("Head isn't first", laid([part] + named), 4, 0)
    for why, part in broken_pales():
        yield (why, laid(named[:1] + [part] + named[2:]), 20, 0)
    for sort in (GREY, any_picture(("colour",), 5, 6)):
        parts = plain_parts(sort, 0, 2)
        for number in range(1, len(parts)):
            here = laid(parts[:number] + named[1:2] + parts[number:])
            yield ("a Pale that isn't wanted", here, places(parts)[number], 2 * (number - 1))
    for number in range(2, len(named)):
        here = laid(named[:number] + named[1:2] + named[number:])
        yield ("a second Pale", here, places(named)[number], min(2 * (number - 2), len(line_rows(NAMED, 1))))


def other_writers(seed, many=60):
    """Tuples (picture, levels, chunks) of files by other writers."""
    chance = random.Random(seed)
    kinds = [("grey", 1), ("grey", 2), ("grey", 8), ("colour",), ("named", 1, palette(1)), ("named", 4, palette(11))]
    for turn in range(many):
        picture = any_picture(chance.choice(kinds), chance.randrange(1, 15), chance.randrange(1, 15), turn)
        levels = chance.randrange(4)
        yield picture, levels, any_parts(picture, levels, chance)
