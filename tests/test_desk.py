"""Desks: point 31."""

import random

from tests.filemaking import GREY, NAMED, cut, laid, other_writers, plain_parts, raw, spoilt
from tests.samples import Case, exactly, whatever
from tornpictures.bytetexts import show_bytes
from tornpictures.desk import Desk
from tornpictures.errors import (
    Beyond, Broken, Full, NoBack, NoLine, NoName, NoPlace, NoText, NotYet, PictureError, Stopped, Taken, Torn, Unknown,
)
from tornpictures.files import written
from tornpictures.oneform import one_form
from tornpictures.picturetexts import show_picture
from tornpictures.reader import Reader
from tornpictures.sheaf import Sheaf

# For each first word the words behind it: a name of a sort, or another word that is right.
LINES = {
    "open": ("NEW", "strict"), "feed": ("READER", "00"), "end": ("READER",), "state": ("READER",), "place": ("READER",),
    "passed": ("READER",), "lost": ("READER",), "whole": ("READER",), "shape": ("READER",), "picture": ("READER",),
    "coarse": ("READER",), "sheaf": ("NEW", "54"), "put": ("SHEAF", "1", "abcd", "00"), "take": ("SHEAF", "1"),
    "call": ("SHEAF", "1", "abcd"), "part": ("SHEAF", "1", "1"), "unite": ("SHEAF", "1"), "undo": ("SHEAF",),
    "names": ("SHEAF",), "file": ("SHEAF",), "form": ("SHEAF",), "drop": ("ANY",), "all": (),
}
FILE = written(GREY, each=2, notes=(("note", [1, 2]),))
HEX = show_bytes(FILE)
NO_NUMBERS = ("", "00", "01", "007", "-1", "+1", "1.", "1_", "x", "1234567890", "0000000001", "\u0661", "\xb9", "1\n", "-", "0x1", "one")
NO_HEX = ("", "0", "000", "0g", "AB", "aB", "0x", "--", "-0", "0-", "00\n", "zz", "f" * 9)
NO_NAMES = ("", "a1", "A", "Ab", "abcdefghi", "a-b", "a\n", "-", "ab_", "\xe9", "a.", "abcdefgH", "0")


class DeskCase(Case):
    def all_of(self, desk):
        """All that a desk answers without being changed."""
        told = [desk.say("all")]
        for name in told[0].split(" ") if told[0] != "-" else []:
            for word in ("state", "place", "passed", "lost", "whole", "shape", "picture", "coarse", "names", "file"):
                try:
                    told.append(desk.say(f"{word} {name}"))
                except (Unknown, NotYet) as error:
                    told.append(type(error).__name__)
        return told

    def refused(self, error, desk, told, changes=False, **fields):
        """That the line is refused, with these fields, and that nothing is changed by it."""
        before, handed = self.all_of(desk), exactly(told)
        with self.assertRaises(error, msg=handed[:100]) as caught:
            desk.say(told)
        self.assertEqual(caught.exception.__class__, error)
        self.assertEqual(isinstance(caught.exception, PictureError), error not in (Beyond, Unknown))
        for field, value in fields.items():
            self.same(getattr(caught.exception, field), value)
        if not changes:
            self.same(self.all_of(desk), before)
        self.assertEqual(exactly(told), handed)

    def says(self, desk, *pairs):
        for line, wanted in pairs:
            self.same(desk.say(line), wanted, line[:80])


class Readers(DeskCase):
    def test_by_hand(self):
        desk = Desk()
        self.says(
            desk, ("all", "-"), ("open a strict", "ok"), ("all", "a"), ("state a", "new"), ("place a", "-"), ("passed a", "-"),
            ("lost a", "-"), ("whole a", "0"), ("shape a", "-"), ("feed a -", "-"), (f"feed a {HEX[:60]}", "-"),
            ("state a", "open"), ("shape a", "5 6 0"), ("whole a", "0"), (f"feed a {HEX[60:]}", "0 1 2 3 4 5"),
            ("state a", "done"), ("whole a", "1"), ("picture a", show_picture(GREY)[:-1]), ("coarse a", show_picture(GREY)[:-1]),
            ("feed a -", "-"), ("end a", "-"), ("state a", "done"), ("place a", "-"),
        )
        self.refused(Stopped, desk, "feed a -")
        self.refused(Stopped, desk, "feed a 00")
        self.refused(Stopped, desk, "end a")
        self.same(desk.say(line="all"), "a")

    def test_a_text_of_a_picture_without_its_last_line_end(self):
        desk = Desk()
        self.says(desk, ("open a loose", "ok"), (f"feed a {show_bytes(written((('grey', 8), 2, 2, ((1, 2), (3, 4)))))}", "0 1"))
        self.says(desk, ("picture a", "grey 8 2 2\n1 2\n3 4"), ("coarse a", "grey 8 2 2\n1 2\n3 4"))

    def test_a_strict_one_that_breaks(self):
        parts = plain_parts(GREY, 0, 2)
        file = show_bytes(laid(parts[:2] + [spoilt(parts[2])]))
        desk = Desk()
        self.says(desk, ("open a strict", "ok"), (f"feed a {file}", "0 1"), ("state a", "broken"))
        self.says(desk, ("place a", str(20 + len(parts[1]))), ("lost a", "-"), ("passed a", "-"), ("shape a", "5 6 0"))
        self.refused(Stopped, desk, "feed a -")
        self.refused(NotYet, desk, "picture a")
        self.refused(NotYet, desk, "coarse a")

    def test_a_loose_one_that_passes_over(self):
        parts = plain_parts(GREY, 0, 2)
        file = show_bytes(laid([parts[0], spoilt(raw("note", [])), parts[1], spoilt(parts[2]), parts[3], parts[4]]))
        desk = Desk()
        self.says(desk, ("open a loose", "ok"), (f"feed a {file}", "0 1 4 5"), ("state a", "done"), ("lost a", "2 3"))
        self.says(desk, ("passed a", f"20 {30 + len(parts[1])}"), ("place a", "-"), ("whole a", "0"))
        self.refused(NotYet, desk, "picture a")
        self.says(desk, ("end a", "-"))

    def test_torn(self):
        for way in ("strict", "loose"):
            desk = Desk()
            self.says(desk, (f"open a {way}", "ok"), ("feed a 54500d0a00", "-"))
            self.refused(Torn, desk, "end a", changes=True, at=4)
            self.says(desk, ("state a", "broken"), ("place a", "4"), ("shape a", "-"))
            self.refused(Stopped, desk, "end a")

    def test_ended_ahead_of_last(self):
        desk = Desk()
        self.says(desk, ("open a loose", "ok"), (f"feed a {HEX[:-2]}", "0 1 2 3 4 5"), ("end a", "-"), ("state a", "done"))

    def test_as_a_reader_beside_it(self):
        chance = random.Random(31)
        for way, strict in (("strict", True), ("loose", False)):
            for picture, levels, parts in other_writers(f"desk {way}", 12):
                if chance.randrange(2):
                    parts[-2] = spoilt(parts[-2])
                desk, reader = Desk(), Reader(strict=strict)
                desk.say(f"open it {way}")
                for piece in cut(laid(parts), chance, 60):
                    if reader.state() == "broken":
                        self.refused(Stopped, desk, f"feed it {show_bytes(piece) or '-'}")
                        continue
                    told = reader.feed(piece)
                    self.same(desk.say(f"feed it {show_bytes(piece) or '-'}"), " ".join(str(line[0]) for line in told) or "-")
                    self.agrees(desk, reader)

    def agrees(self, desk, reader):
        listed = [" ".join(str(number) for number in numbers) or "-" for numbers in (reader.passed(), reader.lost())]
        shape = reader.shape()
        self.says(
            desk, ("state it", reader.state()), ("place it", "-" if reader.place() is None else str(reader.place())),
            ("passed it", listed[0]), ("lost it", listed[1]), ("whole it", str(reader.whole())),
            ("shape it", "-" if shape is None else f"{shape[1]} {shape[2]} {shape[3]}"),
        )
        for word, deed in (("picture", reader.picture), ("coarse", reader.coarse)):
            try:
                right = show_picture(deed())[:-1]
            except NotYet:
                self.refused(NotYet, desk, f"{word} it")
            else:
                self.same(desk.say(f"{word} it"), right)


class Sheaves(DeskCase):
    def test_by_hand(self):
        desk, sheaf = Desk(), Sheaf(FILE)
        self.says(desk, (f"sheaf s {HEX}", "ok"), ("all", "s"), ("names s", "Head note Body Body Body Last"), ("file s", HEX))
        for line, deed in (
            ("put s 1 abcd -", lambda: sheaf.put(1, "abcd", [])),
            ("put s 2 abcd 00ff", lambda: sheaf.put(2, "abcd", [0, 255])),
            ("take s 3", lambda: sheaf.take(3)),
            ("call s 1 dcBA", lambda: sheaf.call(1, "dcBA")),
            ("part s 4 1", lambda: sheaf.part(4, 1)),
            ("unite s 5", lambda: sheaf.unite(5)),
            ("undo s", sheaf.back),
            ("undo s", sheaf.back),
        ):
            deed()
            self.says(desk, (line, "ok"), ("names s", " ".join(sheaf.names())), ("file s", show_bytes(sheaf.file())))
            self.says(desk, ("form s", show_bytes(one_form(FILE))))

    def test_refused_as_the_points_tell(self):
        desk = Desk()
        desk.say(f"sheaf s {HEX}")
        self.refused(Beyond, desk, "put s 6 abcd -", at=0)
        self.refused(Beyond, desk, "put s 999999999 Head -", at=0)
        self.refused(Beyond, desk, "take s 6", at=0)
        self.refused(Beyond, desk, "call s 6 abcd", at=0)
        self.refused(Beyond, desk, "part s 6 1", at=0)
        self.refused(Beyond, desk, "unite s 6", at=0)
        for chunk in ("Head", "", "abc", "abcde", "-", "ab d"[:2], "1234"):
            self.refused(NoName, desk, f"put s 1 {chunk} -")
            self.refused(NoName, desk, f"call s 1 {chunk}")
        for line in ("take s 0", "call s 0 abcd", "part s 0 1", "unite s 0", "unite s 4", "part s 5 1", "put s 0 Head -"):
            self.refused(NoName, desk, line)
        for line in ("put s 0 abcd -", "part s 2 0", "part s 2 2", "part s 2 999999999"):
            self.refused(NoPlace, desk, line)
        self.refused(NoBack, desk, "undo s")
        desk.say("put s 1 abcd " + "00" * 3000)
        self.refused(Full, desk, "put s 1 abcd " + "00" * 3000)
        desk.say("undo s")
        self.refused(NoBack, desk, "undo s")

    def test_a_file_that_is_none(self):
        desk = Desk()
        for word, at in (("-", 0), ("00", 0), ("54500d0a", 4), (HEX[:-2], len(FILE) - 10), (HEX + "00", len(FILE))):
            self.refused(Broken, desk, f"sheaf s {word}", at=at)
        self.same(desk.say("all"), "-")
        self.same(desk.say(f"sheaf s {HEX}"), "ok")

    def test_forms_stay_one(self):
        desk = Desk()
        for name, each in (("a", 1), ("b", 3), ("c", 40)):
            desk.say(f"sheaf {name} {show_bytes(written(NAMED, levels=2, each=each))}")
        self.same(len({desk.say(f"form {name}") for name in "abc"}), 1)


class Lines(DeskCase):
    def setUp(self):
        self.desk = Desk()
        self.says(self.desk, ("open r strict", "ok"), (f"sheaf s {HEX}", "ok"))
        self.names = {"NEW": "x", "READER": "r", "SHEAF": "s", "ANY": "r"}

    def line(self, word, names=None):
        """A line as the interface lists it."""
        return [word] + [(names or self.names).get(part, part) for part in LINES[word]]

    def test_no_text(self):
        for thing in (None, True, 0, [], ["all"], ("all",), {}, {"all": 1}, b"all", ["a", "l", "l"]):
            self.refused(NoLine, self.desk, thing)
        for thing in whatever():
            self.refused(NoLine, self.desk, thing)

    def test_another_first_word(self):
        for line in ("", " ", "  ", "All", "ALL", "al", "alls", "all\n", "\tall", "-", "0", "help", "close a", "write s", "back s",
                     "body s 1", "fed r", "len r", "Open x strict", "opens x strict", " open x strict", " all", "sheaves", "NAME"):
            self.refused(NoLine, self.desk, line)

    def test_a_word_too_few_or_too_many(self):
        for word in LINES:
            right = self.line(word)
            for many in range(1, len(right)):
                self.refused(NoLine, self.desk, " ".join(right[:many]))
            for more in ([""], ["x"], ["", ""], ["r"], ["-"]):
                self.refused(NoLine, self.desk, " ".join(right + more))
            self.refused(NoLine, self.desk, " " + " ".join(right))
            self.refused(NoLine, self.desk, "  ".join(right) + (" " if len(right) == 1 else ""))

    def test_words_without_signs_are_words(self):
        # Two blanks, or one at an end: a word like others.
        self.refused(Unknown, self.desk, "state ", name="")
        self.refused(Unknown, self.desk, "drop ", name="")
        self.refused(Unknown, self.desk, "feed  00", name="")
        self.refused(NoName, self.desk, "open  strict")
        self.refused(NoText, self.desk, "open x ", line=0)
        self.refused(NoText, self.desk, "feed r ", line=0)
        self.refused(NoText, self.desk, "sheaf x ", line=0)
        self.refused(NoText, self.desk, "take s ", line=0)
        self.refused(NoText, self.desk, "put s 1 abcd ", line=0)
        self.refused(NoName, self.desk, "put s 1  00")
        self.refused(NoName, self.desk, "call s 1 ")

    def test_no_number(self):
        for word in NO_NUMBERS:
            for line in (f"put s {word} abcd -", f"take s {word}", f"call s {word} abcd", f"part s {word} 1", f"part s 2 {word}",
                         f"unite s {word}"):
                self.refused(NoText, self.desk, line, line=0)
        # Nine figures are a number, 0 too.
        self.refused(Beyond, self.desk, "take s 123456789", at=0)
        self.refused(NoName, self.desk, "take s 0")

    def test_no_bytes(self):
        for word in NO_HEX:
            for line in (f"feed r {word}", f"sheaf x {word}", f"put s 1 abcd {word}"):
                self.refused(NoText, self.desk, line, line=0)

    def test_neither_strict_nor_loose(self):
        for word in ("", "Strict", "lose", "strict\n", "true", "-", "strictly", "LOOSE"):
            self.refused(NoText, self.desk, f"open x {word}", line=0)

    def test_a_new_name_that_is_none(self):
        for name in NO_NAMES:
            self.refused(NoName, self.desk, f"open {name} strict")
            self.refused(NoName, self.desk, f"sheaf {name} {HEX}")
            self.refused(NoName, self.desk, f"sheaf {name} 00")

    def test_a_name_that_is_taken(self):
        for name in ("r", "s"):
            for line in (f"open {name} strict", f"open {name} loose", f"sheaf {name} {HEX}", f"sheaf {name} 00"):
                self.refused(Taken, self.desk, line)

    def test_a_ninth_thing(self):
        for name in "abcdef":
            self.desk.say(f"open {name} loose")
        self.same(self.desk.say("all"), "a b c d e f r s")
        for line in ("open x strict", f"sheaf x {HEX}", "sheaf x 00"):
            self.refused(Full, self.desk, line)
        self.refused(Taken, self.desk, "open a strict")
        self.says(self.desk, ("drop a", "ok"), ("open x strict", "ok"), ("all", "b c d e f r s x"))
        self.refused(Full, self.desk, "open a strict")

    def test_a_name_by_which_no_such_thing_stands(self):
        for word, parts in LINES.items():
            if not parts or parts[0] == "NEW":
                continue
            others = ["x", "", "-", "R", "abcdefghijk", "0", "r\n", word]
            others += {"READER": ["s"], "SHEAF": ["r"], "ANY": []}[parts[0]]
            for name in others:
                line = " ".join(self.line(word, {parts[0]: name}))
                self.refused(Unknown, self.desk, line, name=name)

    def test_the_order_of_refusals(self):
        for line, error in (
            ("open x", NoLine), ("open 9 what", NoText), ("open r what", NoText), ("sheaf 9 0", NoText), ("sheaf r zz", NoText),
            ("feed s 0", NoText), ("feed x 0", NoText), ("put r x abcd 0", NoText), ("put r 01 abcd 00", NoText),
            ("put r 1 abcd 0", NoText), ("take r 01", NoText), ("part x 1 01", NoText), ("call r x Head", NoText),
            ("put r 99 Head -", Unknown), ("put s 99 Head -", Beyond), ("take x 99", Unknown), ("part r 99 0", Unknown),
            ("unite r 99", Unknown), ("feed s 00", Unknown), ("sheaf 9 00", NoName), ("sheaf r 00", Taken),
        ):
            self.refused(error, self.desk, line)
        for name in "abcdef":
            self.desk.say(f"open {name} loose")
        for line, error in (("open 9 strict", NoName), ("open r strict", Taken), ("open x strict", Full), ("sheaf x 00", Full),
                            ("sheaf x 0", NoText), ("sheaf X 00", NoName), ("state x", Unknown), ("open x what", NoText)):
            self.refused(error, self.desk, line)

    def test_each_line_is_answered(self):
        shown = show_picture(GREY)[:-1]
        pairs = (
            ("open x strict", "ok"), (f"feed x {HEX}", "0 1 2 3 4 5"), ("end x", "-"), ("state x", "done"), ("place x", "-"),
            ("passed x", "-"), ("lost x", "-"), ("whole x", "1"), ("shape x", "5 6 0"), ("picture x", shown), ("coarse x", shown),
            (f"sheaf y {HEX}", "ok"), ("put y 1 abcd 00", "ok"), ("take y 1", "ok"), ("call y 1 abcd", "ok"), ("part y 2 1", "ok"),
            ("unite y 2", "ok"), ("undo y", "ok"), ("undo y", "ok"), ("undo y", "ok"), ("file y", HEX),
            ("names y", "Head note Body Body Body Last"), ("form y", show_bytes(one_form(FILE))), ("drop y", "ok"), ("all", "r s x"),
        )
        self.says(self.desk, *pairs)
        self.assertEqual({line.split(" ")[0] for line, wanted in pairs}, set(LINES))


class Names(DeskCase):
    def test_names_that_are_words_of_lines(self):
        desk = Desk()
        for name in ("all", "open", "drop", "feed", "state", "strict"):
            self.same(desk.say(f"open {name} strict"), "ok")
        self.same(desk.say("all"), "all drop feed open state strict")
        self.says(desk, (f"sheaf sheaf {HEX}", "ok"), ("names sheaf", "Head note Body Body Body Last"), ("state state", "new"))
        self.says(desk, ("drop drop", "ok"), ("drop all", "ok"), ("all", "feed open sheaf state strict"))

    def test_one_to_eight_letters(self):
        desk = Desk()
        for name in ("a", "z", "abcdefgh", "zzzzzzzz"):
            self.same(desk.say(f"open {name} loose"), "ok")
        self.same(desk.say("all"), "a abcdefgh z zzzzzzzz")

    def test_all_is_rising(self):
        desk = Desk()
        for name in ("c", "b", "ba", "aa", "a"):
            desk.say(f"open {name} loose")
        desk.say(f"sheaf bb {HEX}")
        self.same(desk.say("all"), "a aa b ba bb c")

    def test_drop_and_a_name_given_anew(self):
        desk = Desk()
        self.says(desk, ("open a strict", "ok"), (f"feed a {HEX}", "0 1 2 3 4 5"), ("drop a", "ok"), ("all", "-"))
        self.refused(Unknown, desk, "drop a", name="a")
        self.refused(Unknown, desk, "state a", name="a")
        self.says(desk, ("open a loose", "ok"), ("state a", "new"), ("drop a", "ok"), (f"sheaf a {HEX}", "ok"))
        self.refused(Unknown, desk, "state a", name="a")
        self.says(desk, ("names a", "Head note Body Body Body Last"), ("take a 1", "ok"), ("drop a", "ok"))
        self.says(desk, (f"sheaf a {HEX}", "ok"), ("names a", "Head note Body Body Body Last"))
        self.refused(NoBack, desk, "undo a")

    def test_eight_things_again_and_again(self):
        desk = Desk()
        for turn in range(3):
            for name in "abcdefgh":
                self.same(desk.say(f"sheaf {name} {HEX}" if name < "e" else f"open {name} strict"), "ok")
            self.refused(Full, desk, "open i strict")
            for name in "hgfedcba":
                self.same(desk.say(f"drop {name}"), "ok")
            self.same(desk.say("all"), "-")

    def test_two_desks_know_nothing_of_one_another(self):
        one, other = Desk(), Desk()
        self.says(one, ("open a strict", "ok"), (f"sheaf b {HEX}", "ok"))
        self.same(other.say("all"), "-")
        self.refused(Unknown, other, "state a", name="a")
        self.says(other, (f"sheaf a {HEX}", "ok"), ("open b loose", "ok"), ("take a 1", "ok"), ("feed b 54", "-"))
        self.says(one, ("state a", "new"), ("names b", "Head note Body Body Body Last"), ("all", "a b"))

    def test_things_led_by_turns(self):
        desk = Desk()
        self.says(desk, ("open a strict", "ok"), ("open b loose", "ok"), (f"sheaf c {HEX}", "ok"), (f"sheaf d {HEX}", "ok"))
        other = show_bytes(written(NAMED, levels=1))
        for at in range(0, max(len(HEX), len(other)), 20):
            for name, text in (("a", HEX), ("b", other)):
                desk.say(f"feed {name} {text[at:at + 20] or '-'}")
            desk.say(f"put c 1 abcd {at % 256:02x}")
        self.says(desk, ("picture a", show_picture(GREY)[:-1]), ("picture b", show_picture(NAMED)[:-1]), ("file d", HEX))
        self.assertNotEqual(desk.say("file c"), HEX)
        self.same(desk.say("form c"), desk.say("form d"))
