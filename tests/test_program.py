"""What the document promises over the whole program: points 2 and 3, and the classes of refusals."""

import inspect
import itertools
import random

from tests.filemaking import GREY, NAMED, cut, laid, other_writers, plain_parts, spoilt
from tests.samples import Case, all_kinds, any_picture
from tornpictures import errors
from tornpictures.accounts import account, lets_account
from tornpictures.bits import bits_from, bits_of, bytes_from, number_of
from tornpictures.blocks import block, packed, plain, unpacked
from tornpictures.bytetexts import read_bytes, show_bytes
from tornpictures.cheapest import cheapest, lets_table, price, table
from tornpictures.chunks import check, chunk, chunk_at, is_chunk_name, is_small
from tornpictures.coarse import coarse, grid
from tornpictures.codes import coded, codes, decoded, is_full
from tornpictures.costs import chosen, cost, costs, is_chosen
from tornpictures.counts import joinings, lengths, lets_joinings
from tornpictures.desk import Desk
from tornpictures.files import bound, levels_of, read, written
from tornpictures.filters import filtered, undone
from tornpictures.lines import line_rows, lines
from tornpictures.oneform import one_form
from tornpictures.passes import parted, pass_of, passes, size_of, together
from tornpictures.pictures import is_kind, is_picture, step_of
from tornpictures.picturetexts import read_picture, show_picture
from tornpictures.reader import Reader
from tornpictures.rowbytes import row_bytes, row_of
from tornpictures.sections import section_bytes, section_lines
from tornpictures.sheaf import Sheaf
from tornpictures.stretches import said, unsaid

FILE = written(GREY, each=2, notes=(("note", [1]),))
HEX = show_bytes(FILE)


def broken_reader():
    reader = Reader()
    reader.feed([0, 0, 0, 0])
    return reader


def desk_with(*told):
    desk = Desk()
    for line in told:
        desk.say(line)
    return desk


# For each refusal something that is refused so, and the field that it tells.
REFUSALS = {
    "NoRow": (lambda: row_of(("grey", 8), 1, []), {}),
    "NoLines": (lambda: section_lines(("grey", 8), 1, 1, [0]), {"at": 0}),
    "Beyond": (lambda: section_lines(("grey", 8), 1, 1, [0, 0], first=0, many=2), {"at": 1}),
    "NoSaying": (lambda: unsaid([("byte", 1), ("byte", 256)]), {"at": 1}),
    "NoCode": (lambda: decoded("00", [(5, 1)], many=3), {"at": 2}),
    "NoBlock": (lambda: unpacked([2]), {}),
    "Broken": (lambda: read(FILE[:-1]), {"at": len(FILE) - 10}),
    "NoBytes": (lambda: Reader().feed("00"), {}),
    "Stopped": (lambda: broken_reader().feed([]), {}),
    "Torn": (lambda: Reader().end(), {"at": 0}),
    "NotYet": (lambda: Reader().picture(), {}),
    "NoName": (lambda: Sheaf(FILE).take(0), {}),
    "NoPlace": (lambda: Sheaf(FILE).put(0, "abcd", []), {}),
    "Full": (lambda: desk_with(*[f"open {name} loose" for name in "abcdefghi"]), {}),
    "NoBack": (lambda: Sheaf(FILE).back(), {}),
    "NoText": (lambda: read_picture("grey 8 1 1\n"), {"line": 1}),
    "NoLine": (lambda: Desk().say("hello"), {}),
    "Taken": (lambda: desk_with("open a strict", "open a strict"), {}),
    "Unknown": (lambda: Desk().say("drop it"), {"name": "it"}),
}


class Refusals(Case):
    def test_all_nineteen(self):
        self.assertEqual(len(REFUSALS), 19)
        own = {name for name, made in vars(errors).items() if inspect.isclass(made) and made.__module__ == errors.__name__}
        self.assertEqual(own, set(REFUSALS) | {"PictureError"})

    def test_each_of_its_own_class_alone(self):
        for name, (deed, fields) in REFUSALS.items():
            with self.subTest(name), self.assertRaises(getattr(errors, name)) as caught:
                deed()
            error = caught.exception
            self.assertEqual(type(error).__name__, name)
            for other in REFUSALS:
                self.assertEqual(isinstance(error, getattr(errors, other)), other == name)
            apart = name in ("Beyond", "Unknown")
            self.assertEqual(isinstance(error, errors.PictureError), not apart)
            self.assertEqual(isinstance(error, ValueError), not apart)
            self.assertEqual(isinstance(error, IndexError), name == "Beyond")
            self.assertEqual(isinstance(error, LookupError), apart)
            self.same({field: getattr(error, field) for field in fields}, fields)
            self.assertFalse([field for field in ("at", "line", "name") if field not in fields and field in vars(error)])


# Every function of the interface with all its arguments, by places and by names, those behind a star apart.
ROW = [1, 2, 3]
COUNTS = [(0, 5), (1, 1), (2, 2)]
KIND = ("grey", 8)
SMALL = (KIND, 2, 2, ((1, 2), (3, 4)))
FULL_LENGTHS = lengths(COUNTS)
CALLS = (
    (is_kind, {"thing": KIND}, {}), (is_picture, {"thing": SMALL}, {}), (step_of, {"kind": KIND}, {}),
    (row_bytes, {"kind": KIND, "row": (1, 2)}, {}), (row_of, {"kind": KIND, "many": 2, "bytes_of": [1, 2]}, {}),
    (filtered, {"number": 4, "row": ROW, "above": ROW}, {"step": 1}), (undone, {"number": 4, "row": ROW, "above": ROW}, {"step": 1}),
    (cost, {"row": ROW}, {}), (costs, {"row": ROW, "above": ROW}, {"step": 1}), (chosen, {"row": ROW, "above": ROW}, {"step": 1}),
    (is_chosen, {"row": ROW, "above": ROW, "thing": (2, [0, 0, 0])}, {"step": 1}),
    (passes, {"levels": 2}, {}), (pass_of, {"levels": 2, "x": 3, "y": 1}, {}),
    (size_of, {"width": 5, "height": 6, "levels": 1, "number": 2}, {}), (parted, {"picture": SMALL, "levels": 1}, {}),
    (together, {"kind": KIND, "width": 2, "height": 2, "levels": 1, "rows": parted(SMALL, 1)}, {}),
    (grid, {"levels": 2, "many": 3}, {}),
    (coarse, {"kind": KIND, "width": 2, "height": 2, "levels": 1, "rows": parted(SMALL, 1)[:2]}, {}),
    (lines, {"width": 2, "height": 2, "levels": 1}, {}), (line_rows, {"picture": SMALL, "levels": 1}, {}),
    (section_bytes, {"picture": SMALL}, {"levels": 0, "first": 0, "many": None}),
    (section_lines, {"kind": KIND, "width": 2, "height": 2, "bytes_of": section_bytes(SMALL)}, {"levels": 0, "first": 0, "many": None}),
    (said, {"bytes_of": ROW * 3}, {}), (unsaid, {"saying": [("byte", 1), ("again", 1, 3)]}, {}),
    (price, {"saying": said(ROW * 3)}, {"single": 9, "again": 20}), (cheapest, {"bytes_of": ROW * 3}, {"single": 9, "again": 20}),
    (table, {"bytes_of": ROW * 3}, {"single": 9, "again": 20}),
    (lets_table, {"bytes_of": ROW, "thing": table(ROW)}, {"single": 9, "again": 20}),
    (lengths, {"counts": COUNTS}, {}), (joinings, {"counts": COUNTS}, {}),
    (lets_joinings, {"counts": COUNTS, "thing": joinings(COUNTS)}, {}),
    (is_full, {"thing": FULL_LENGTHS}, {}), (codes, {"lengths_of": FULL_LENGTHS}, {}),
    (coded, {"signs": [0, 2], "lengths_of": FULL_LENGTHS}, {}),
    (decoded, {"text": "0110", "lengths_of": FULL_LENGTHS}, {"many": 1, "at": 0}),
    (bits_of, {"number": 5, "many": 4}, {}), (number_of, {"text": "0101"}, {}), (bytes_from, {"text": "0101"}, {}),
    (bits_from, {"bytes_of": ROW}, {}), (plain, {"bytes_of": ROW}, {}), (packed, {"bytes_of": ROW}, {}), (block, {"bytes_of": ROW}, {}),
    (unpacked, {"thing": [0, 1]}, {}), (check, {"bytes_of": ROW}, {}), (is_chunk_name, {"thing": "note"}, {}),
    (is_small, {"name": "note"}, {}), (chunk, {"name": "note", "body": ROW}, {}), (chunk_at, {"bytes_of": FILE, "at": 4}, {}),
    (written, {"picture": GREY}, {"levels": 0, "each": 8, "notes": ()}), (read, {"thing": FILE}, {}), (levels_of, {"thing": FILE}, {}),
    (bound, {"picture": GREY}, {"levels": 0, "each": 8, "notes": ()}), (account, {"thing": FILE}, {}),
    (lets_account, {"thing": FILE, "account_of": account(FILE)}, {}), (one_form, {"file": FILE}, {}),
    (show_bytes, {"bytes_of": ROW}, {}), (read_bytes, {"text": "0102"}, {}), (show_picture, {"picture": GREY}, {}),
    (read_picture, {"text": show_picture(GREY)}, {}),
)


def sheaf_of(name, given):
    """A sheaf behind a deed, by which all that can be asked of it is told."""
    sheaf = Sheaf(FILE)
    getattr(sheaf, name)(**given)
    return sheaf.file()


class Calls(Case):
    def test_functions_by_places_and_by_names(self):
        for function, given, behind in CALLS:
            with self.subTest(function.__name__):
                kept = self.check_own(function, *given.values(), **behind)
                self.same(function(*given.values()), kept)
                self.same(function(**given), kept)
                self.same(function(**dict(reversed(given.items())), **behind), kept)
                for many in range(1, len(behind)):
                    for some in itertools.combinations(behind, many):
                        self.same(function(*given.values(), **{name: behind[name] for name in some}), kept)
                if behind:
                    with self.assertRaises(TypeError):
                        function(*given.values(), *behind.values())

    def test_each_function_of_the_interface_is_among_them(self):
        from tests.test_interface import FUNCTIONS
        named = {wanted.partition("(")[0] for functions in FUNCTIONS.values() for wanted in functions}
        self.assertEqual({function.__name__ for function, given, behind in CALLS}, named)

    def test_methods_by_places_and_by_names(self):
        for name, given in (("put", {"at": 1, "name": "abcd", "body": [1]}), ("take", {"at": 1}), ("call", {"at": 1, "name": "abcd"}),
                            ("part", {"at": 2, "many": 1}), ("unite", {"at": 2})):
            sheaf = Sheaf(file=FILE)
            self.assertIsNone(getattr(sheaf, name)(*given.values()))
            self.same(sheaf.file(), sheaf_of(name, given))
            self.same(sheaf.file(), sheaf_of(name, dict(reversed(given.items()))))
            self.assertNotEqual(sheaf.file(), FILE)
        self.same(Sheaf(FILE).body(1), Sheaf(file=FILE).body(at=1))
        for reader in (Reader(), Reader(strict=True), Reader(strict=False)):
            self.same(reader.feed(FILE[:60]) + reader.feed(piece=FILE[60:], seen=None), list(enumerate(GREY[3])))
        self.same(Desk().say("all"), Desk().say(line="all"))


class There(Case):
    def test_a_picture_from_text_to_text(self):
        chance = random.Random(2)
        for kind in all_kinds():
            text = show_picture(any_picture(kind, chance.randrange(1, 25), chance.randrange(1, 15)))
            levels, each = chance.randrange(4), chance.randrange(1, 41)
            file = written(read_picture(text), levels=levels, each=each, notes=(("note", [3]),))
            for strict in (True, False):
                reader = Reader(strict=strict)
                for piece in cut(file, chance, 90):
                    reader.feed(piece)
                self.same(reader.end(), [])
                self.same(show_picture(reader.picture()), text)
                self.same(show_picture(reader.coarse()), text)
            self.same(show_picture(read(file)), text)
            self.same(show_picture(read(one_form(file))), text)
            self.same(show_picture(read(read_bytes(show_bytes(file)))), text)

    def test_the_same_at_a_desk(self):
        chance = random.Random(3)
        for picture, levels, parts in other_writers("program", 15):
            desk, file = Desk(), laid(parts)
            desk.say(f"sheaf s {show_bytes(file)}")
            form = desk.say("form s")
            for line in ("put s 1 abcd 00ff", "part s 2 1", "unite s 2", "call s 1 dcba", "undo s", "take s 1"):
                try:
                    desk.say(line)
                except (errors.NoName, errors.NoPlace, errors.Beyond):
                    pass
                self.same(desk.say("form s"), form)
            for way in ("strict", "loose"):
                desk.say(f"open {way} {way}")
                for piece in cut(read_bytes(desk.say("file s")), chance, 70):
                    desk.say(f"feed {way} {show_bytes(piece) or '-'}")
                self.same(desk.say(f"end {way}"), "-")
                self.same(desk.say(f"picture {way}") + "\n", show_picture(picture))
            self.same(read_bytes(form), written(picture, levels=levels))

    def test_edits_keep_the_picture_and_the_form(self):
        chance = random.Random(4)
        for picture, levels, parts in other_writers("edited", 15):
            sheaf = Sheaf(laid(parts))
            for turn in range(12):
                at = chance.randrange(len(sheaf))
                for deed in (lambda: sheaf.part(at, 1), lambda: sheaf.unite(at), lambda: sheaf.put(at, "note", [at]),
                             lambda: sheaf.take(at)):
                    try:
                        deed()
                    except (errors.NoName, errors.NoPlace, errors.Beyond):
                        continue
                    self.same(read(sheaf.file()), picture)
                    self.same(one_form(sheaf.file()), written(picture, levels=levels))
                    at = min(at, len(sheaf) - 1)

    def test_broken_chunks_of_an_edited_file(self):
        sheaf = Sheaf(written(NAMED, levels=1, each=3))
        sheaf.part(2, 1)
        entries = account(sheaf.file())
        bodies = [entry for entry in entries if entry[0] == "body"]
        for word, begin, end, first, many in bodies:
            file = sheaf.file()
            file[end - 1] ^= 1
            reader = Reader(strict=False)
            told = reader.feed(file)
            self.same(reader.lost(), list(range(first, first + many)))
            self.same(told, [line for line in enumerate(line_rows(NAMED, 1)) if line[0] not in reader.lost()])
            self.same(reader.passed(), [begin])
            self.same([entry[0] for entry in account(file)].count("passed"), 1)


class ByTurns(Case):
    def test_readers_and_sheaves_led_by_turns(self):
        chance = random.Random(5)
        files = [written(GREY, each=1), written(NAMED, levels=2, each=2), laid(plain_parts(GREY, 1, 3)),
                 laid([spoilt(part) if number == 2 else part for number, part in enumerate(plain_parts(GREY, 0, 2))])]
        cuts = [cut(file, chance, 15) for file in files]
        together_led = [(Reader(strict=strict), pieces) for pieces in cuts for strict in (True, False)]
        told = [[] for reader in together_led]
        for turn in range(max(len(pieces) for pieces in cuts)):
            for number, (reader, pieces) in enumerate(together_led):
                if turn < len(pieces) and reader.state() != "broken":
                    told[number] += reader.feed(pieces[turn])
        for number, (reader, pieces) in enumerate(together_led):
            alone, lines_alone = Reader(strict=number % 2 == 0), []
            for piece in pieces:
                if alone.state() != "broken":
                    lines_alone += alone.feed(piece)
            self.same(told[number], lines_alone)
            for name in ("state", "fed", "place", "passed", "lost", "shape", "whole"):
                self.same(getattr(reader, name)(), getattr(alone, name)())

    def test_sheaves_led_by_turns(self):
        deeds = (("put", 1, "abcd", [7]), ("part", 3, 1), ("call", 1, "dcba"), ("unite", 4), ("take", 1), ("back",), ("back",))
        sheaves = [Sheaf(FILE), Sheaf(written(GREY, each=3, notes=(("note", []),))), Sheaf(FILE)]
        for name, *given in deeds:
            for sheaf in sheaves:
                getattr(sheaf, name)(*given)
        for sheaf, file in zip(sheaves, (FILE, written(GREY, each=3, notes=(("note", []),)), FILE)):
            alone = Sheaf(file)
            for name, *given in deeds:
                getattr(alone, name)(*given)
            self.assertIs(sheaf == alone, True)
            self.same(sheaf.file(), alone.file())
