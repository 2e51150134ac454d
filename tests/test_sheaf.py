"""Sheaves: points 27 and 28, and what point 3 says of edits."""

import copy
import random

from tests.filemaking import (
    GREY, NAMED, body_with, broken_files, head_bytes, laid, other_writers, plain_body, plain_parts, raw,
)
from tests.samples import Case, any_bytes, any_picture, exactly, spoil, whatever
from tornpictures.blocks import block
from tornpictures.errors import Beyond, Broken, Full, NoBack, NoBytes, NoName, NoPlace, PictureError
from tornpictures.files import levels_of, read, written
from tornpictures.lines import line_rows
from tornpictures.sections import section_bytes
from tornpictures.sheaf import Sheaf

NO_NUMBERS = (True, False, None, "", "0", "1", (), (1,), [], [1], {}, {1: 1}, -1, -2, 10 ** 59, -10 ** 59)
NO_NAMES = (
    None, True, 0, 1, "", "a", "abc", "abcde", "no1e", "note ", " not", "not\n", "-abc", [], ["note"], ("note",), {},
    {"note": 1}, list("note"), b"note",
)
GREAT_NAMES = ("Head", "Pale", "Body", "Last", "Note", "BODY", "Abcd", "Zzzz")
NO_BODIES = (None, True, 0, "", "00", (), (1,), {}, {0: 1}, [256], [-1], [True], [None], ["a"], [[1]], b"", [0] * 3001)


def told_body(picture, levels, first, many):
    """The body of a Body as it is written."""
    section = section_bytes(picture, levels=levels, first=first, many=many)
    return [first // 256, first % 256, many] + block(section)


class SheafCase(Case):
    def setUp(self):
        self.picture = GREY
        self.file = written(GREY, each=2, notes=(("note", [1, 2]), ("text", [])))
        self.names = ["Head", "note", "text", "Body", "Body", "Body", "Last"]

    def stands(self, sheaf, names, file, picture=GREY, levels=0):
        """That the sheaf has these chunks and this file, and that the file is of this picture."""
        self.same(sheaf.names(), names)
        self.same(len(sheaf), len(names))
        self.same(sheaf.file(), file)
        self.same(laid([raw(name, sheaf.body(at)) for at, name in enumerate(names)]), file)
        self.same(read(file), picture)
        self.same(levels_of(file), levels)

    def all_of(self, sheaf):
        return (sheaf.names(), sheaf.file(), [sheaf.body(at) for at in range(len(sheaf))], len(sheaf))

    def refused(self, error, sheaf, deed, *given):
        """That the deed is refused, and that it changes nothing."""
        before, handed = self.all_of(sheaf), exactly(given)
        with self.assertRaises(error, msg=handed[:200]) as caught:
            deed(*given)
        self.assertEqual(caught.exception.__class__, error)
        self.assertEqual(isinstance(caught.exception, PictureError), error != Beyond)
        if error == Beyond:
            self.same(caught.exception.at, 0)
        self.same(self.all_of(sheaf), before)
        self.assertEqual(exactly(given), handed)


class Made(SheafCase):
    def test_by_hand(self):
        sheaf = Sheaf(self.file)
        self.stands(sheaf, self.names, self.file)
        self.same(sheaf.body(0), [0, 4, 5, 6, 0, 0])
        self.same(sheaf.body(1), [1, 2])
        self.same(sheaf.body(2), [])
        self.same(sheaf.body(at=3), told_body(GREY, 0, 0, 2))
        self.same(sheaf.body(6), [])
        self.stands(Sheaf(file=self.file), self.names, self.file)

    def test_of_other_writers(self):
        for picture, levels, parts in other_writers("sheaves", 40):
            sheaf = Sheaf(laid(parts))
            self.stands(sheaf, [bytes(part[2:6]).decode() for part in parts], laid(parts), picture, levels)

    def test_of_what_is_no_file(self):
        for why, bytes_of, at, told in broken_files():
            with self.assertRaises(Broken, msg=why) as caught:
                Sheaf(bytes_of)
            self.same(caught.exception.at, at, why)
        for thing in whatever() + [tuple(self.file), self.file + [True]]:
            with self.assertRaises(Broken) as caught:
                Sheaf(thing)
            self.same(caught.exception.at, 0)

    def test_body_of_whatever_number(self):
        sheaf = Sheaf(self.file)
        for at in NO_NUMBERS + (7, 8, 100) + tuple(whatever()):
            if exactly(at) not in (exactly(0), exactly(1), exactly(3)):
                self.refused(Beyond, sheaf, sheaf.body, at)


class Put(SheafCase):
    def test_ahead_of_the_one_numbered(self):
        chance = random.Random(27)
        for at in range(1, 7):
            for name, body in (("abcd", []), ("zZZZ", [0, 255]), ("note", any_bytes(200, chance))):
                sheaf = Sheaf(self.file)
                self.assertIsNone(sheaf.put(at, name, body))
                parts = [(name, Sheaf(self.file).body(number)) for number, name in enumerate(self.names)]
                parts.insert(at, (name, body))
                self.stands(sheaf, [name for name, body in parts], laid([raw(name, body) for name, body in parts]))
                self.same(sheaf.body(at), body)

    def test_by_names(self):
        sheaf, other = Sheaf(self.file), Sheaf(self.file)
        sheaf.put(at=2, name="abcd", body=[7])
        other.put(2, "abcd", [7])
        self.same(sheaf.file(), other.file())

    def test_ahead_of_pale(self):
        sheaf = Sheaf(written(NAMED))
        sheaf.put(1, "abcd", [7])
        self.same(sheaf.names(), ["Head", "abcd", "Pale", "Body", "Last"])
        self.same(read(sheaf.file()), NAMED)

    def test_what_is_handed_in_stays_and_is_the_callers_own(self):
        sheaf, body = Sheaf(self.file), [1, 2, 3]
        sheaf.put(1, "abcd", body)
        self.same(body, [1, 2, 3])
        file = sheaf.file()
        body[:] = [300]
        self.same(sheaf.body(1), [1, 2, 3])
        self.same(sheaf.file(), file)

    def test_the_longest_body(self):
        sheaf = Sheaf(self.file)
        sheaf.put(1, "long", [9] * 3000)
        self.same(len(sheaf.file()), len(self.file) + 3010)
        self.same(read(sheaf.file()), GREY)

    def test_refused(self):
        sheaf = Sheaf(self.file)
        for at in NO_NUMBERS + (7, 8):
            self.refused(Beyond, sheaf, sheaf.put, at, "abcd", [])
        for name in NO_NAMES + GREAT_NAMES:
            self.refused(NoName, sheaf, sheaf.put, 1, name, [])
        for body in NO_BODIES:
            self.refused(NoBytes, sheaf, sheaf.put, 1, "abcd", body)
        self.refused(NoPlace, sheaf, sheaf.put, 0, "abcd", [])
        for thing in whatever():
            if exactly(thing) not in (exactly(0), exactly(1), exactly(3)):
                self.refused(Beyond, sheaf, sheaf.put, thing, "abcd", [])
            if thing != "grey":
                self.refused(NoName, sheaf, sheaf.put, 1, thing, [])
            if exactly(thing) not in (exactly([]), exactly([1, 2])):
                self.refused(NoBytes, sheaf, sheaf.put, 1, "abcd", thing)

    def test_the_order_of_refusals(self):
        sheaf = Sheaf(self.file)
        sheaf.put(1, "long", [0] * 3000)
        long = [0] * 3000
        self.refused(Beyond, sheaf, sheaf.put, 99, "Head", None)
        self.refused(Beyond, sheaf, sheaf.put, True, None, [0] * 3001)
        self.refused(NoName, sheaf, sheaf.put, 0, "Head", None)
        self.refused(NoName, sheaf, sheaf.put, 0, None, long)
        self.refused(NoBytes, sheaf, sheaf.put, 0, "abcd", [0] * 3001)
        self.refused(NoBytes, sheaf, sheaf.put, 0, "abcd", None)
        self.refused(NoPlace, sheaf, sheaf.put, 0, "abcd", long)
        self.refused(Full, sheaf, sheaf.put, 1, "abcd", long)

    def test_full(self):
        sheaf = Sheaf(self.file)
        sheaf.put(1, "long", [0] * 3000)
        room = 6000 - len(sheaf.file())
        self.refused(Full, sheaf, sheaf.put, 1, "abcd", [0] * (room - 9))
        sheaf.put(1, "abcd", [0] * (room - 10))
        self.same(len(sheaf.file()), 6000)
        self.same(read(sheaf.file()), GREY)
        self.refused(Full, sheaf, sheaf.put, 1, "abcd", [])
        self.refused(Full, sheaf, sheaf.part, 5, 1)
        sheaf.call(1, "dcba")
        sheaf.take(2)
        self.same(sheaf.names()[:2], ["Head", "dcba"])


class TakeAndCall(SheafCase):
    def test_take(self):
        sheaf = Sheaf(self.file)
        self.assertIsNone(sheaf.take(1))
        self.stands(sheaf, ["Head", "text", "Body", "Body", "Body", "Last"], written(GREY, each=2, notes=(("text", []),)))
        self.assertIsNone(sheaf.take(at=1))
        self.stands(sheaf, ["Head", "Body", "Body", "Body", "Last"], written(GREY, each=2))

    def test_call(self):
        sheaf = Sheaf(self.file)
        self.assertIsNone(sheaf.call(1, "abCD"))
        right = written(GREY, each=2, notes=(("abCD", [1, 2]), ("text", [])))
        self.stands(sheaf, ["Head", "abCD", "text", "Body", "Body", "Body", "Last"], right)
        self.assertIsNone(sheaf.call(at=2, name="zzzz"))
        self.same(sheaf.names()[2], "zzzz")
        sheaf.call(2, "zzzz")
        self.same(read(sheaf.file()), GREY)

    def test_refused(self):
        for file in (self.file, written(NAMED, notes=(("note", []),))):
            sheaf = Sheaf(file)
            for at in NO_NUMBERS + (len(sheaf), len(sheaf) + 1):
                self.refused(Beyond, sheaf, sheaf.take, at)
                self.refused(Beyond, sheaf, sheaf.call, at, "abcd")
                self.refused(Beyond, sheaf, sheaf.call, at, None)
            for at, name in enumerate(sheaf.names()):
                if name in ("Head", "Pale", "Body", "Last"):
                    self.refused(NoName, sheaf, sheaf.take, at)
                    self.refused(NoName, sheaf, sheaf.call, at, "abcd")
                for other in NO_NAMES + GREAT_NAMES:
                    self.refused(NoName, sheaf, sheaf.call, at, other)
            for thing in whatever():
                if exactly(thing) not in (exactly(0), exactly(1), exactly(3)):
                    self.refused(Beyond, sheaf, sheaf.take, thing)
                    self.refused(Beyond, sheaf, sheaf.call, thing, "abcd")
                if thing != "grey":
                    self.refused(NoName, sheaf, sheaf.call, sheaf.names().index("note"), thing)


class Part(SheafCase):
    def test_in_two(self):
        for picture, levels in ((GREY, 0), (NAMED, 1), (any_picture(("colour",), 9, 9), 2)):
            file = written(picture, levels=levels, each=40)
            at = Sheaf(file).names().index("Body")
            total = len(line_rows(picture, levels))
            for many in range(1, total):
                sheaf = Sheaf(file)
                self.assertIsNone(sheaf.part(at, many))
                self.same(sheaf.names()[at:], ["Body", "Body", "Last"])
                self.same(sheaf.body(at), told_body(picture, levels, 0, many))
                self.same(sheaf.body(at + 1), told_body(picture, levels, many, total - many))
                self.stands(sheaf, sheaf.names(), sheaf.file(), picture, levels)

    def test_those_in_the_middle(self):
        sheaf = Sheaf(self.file)
        sheaf.part(at=4, many=1)
        names = ["Head", "note", "text", "Body", "Body", "Body", "Body", "Last"]
        self.stands(sheaf, names, sheaf.file())
        self.same([sheaf.body(at)[:3] for at in (3, 4, 5, 6)], [[0, 0, 2], [0, 2, 1], [0, 3, 1], [0, 4, 2]])
        self.same(sheaf.body(3), Sheaf(self.file).body(3))

    def test_new_bodies_are_written_by_the_rules(self):
        # The Body was by another writer: plain, and by another filter.
        picture = any_picture(("grey", 8), 20, 20)
        parts = plain_parts(picture, 0, 20)
        sheaf = Sheaf(laid(parts))
        sheaf.part(1, 7)
        self.same(sheaf.body(1), told_body(picture, 0, 0, 7))
        self.same(sheaf.body(2), told_body(picture, 0, 7, 13))
        sheaf.unite(1)
        self.same(sheaf.body(1), told_body(picture, 0, 0, 20))

    def test_more_than_40_lines(self):
        picture = any_picture(("grey", 1), 24, 24)
        file = laid([raw("Head", head_bytes(picture, 3)), plain_body(picture, 3, 0, 45), raw("Last", [])])
        for many in (1, 2, 43, 44):
            sheaf = Sheaf(file)
            sheaf.part(1, many)
            self.same([sheaf.body(at)[2] for at in (1, 2)], [many, 45 - many])
            self.stands(sheaf, ["Head", "Body", "Body", "Last"], sheaf.file(), picture, 3)
            self.refused(NoPlace, sheaf, sheaf.unite, 1)

    def test_refused(self):
        sheaf = Sheaf(self.file)
        for at in NO_NUMBERS + (7, 8):
            self.refused(Beyond, sheaf, sheaf.part, at, 1)
            self.refused(Beyond, sheaf, sheaf.part, at, None)
        for at in (0, 1, 2, 6):
            self.refused(NoName, sheaf, sheaf.part, at, 1)
            self.refused(NoName, sheaf, sheaf.part, at, None)
            self.refused(NoName, sheaf, sheaf.part, at, 0)
        for many in NO_NUMBERS + (0, 2, 3, 4, 6, 255):
            self.refused(NoPlace, sheaf, sheaf.part, 4, many)
        for thing in whatever():
            if exactly(thing) != exactly(1):
                self.refused(NoPlace, sheaf, sheaf.part, 4, thing)
        single = Sheaf(written(GREY, each=1))
        for many in (0, 1, 2):
            self.refused(NoPlace, single, single.part, 1, many)
        pale = Sheaf(written(NAMED))
        self.refused(NoName, pale, pale.part, 1, 1)

    def test_full(self):
        picture = any_picture(("colour",), 24, 24)
        sheaf = Sheaf(written(picture, each=24))
        sheaf.put(1, "long", [0] * 3000)
        sheaf.put(1, "long", [0] * (6000 - len(sheaf.file()) - 10))
        self.same(len(sheaf.file()), 6000)
        self.refused(Full, sheaf, sheaf.part, 3, 12)
        self.refused(NoPlace, sheaf, sheaf.part, 3, 24)


class Unite(SheafCase):
    def test_two_become_one(self):
        sheaf = Sheaf(self.file)
        self.assertIsNone(sheaf.unite(3))
        self.same([sheaf.body(at)[:3] for at in (3, 4)], [[0, 0, 4], [0, 4, 2]])
        self.same(sheaf.body(3), told_body(GREY, 0, 0, 4))
        self.stands(sheaf, ["Head", "note", "text", "Body", "Body", "Last"], sheaf.file())
        self.assertIsNone(sheaf.unite(at=3))
        self.stands(sheaf, ["Head", "note", "text", "Body", "Last"], written(GREY, notes=(("note", [1, 2]), ("text", []))))

    def test_as_it_was(self):
        for picture, levels in ((GREY, 0), (NAMED, 3), (any_picture(("colour",), 9, 9), 2)):
            file = written(picture, levels=levels, each=40)
            at = Sheaf(file).names().index("Body")
            for many in range(1, len(line_rows(picture, levels))):
                sheaf = Sheaf(file)
                sheaf.part(at, many)
                self.assertNotEqual(sheaf.file(), file)
                sheaf.unite(at)
                self.same(sheaf.file(), file)

    def test_up_to_40_lines(self):
        picture = any_picture(("grey", 1), 24, 24)
        for first, second, fits in ((20, 20, True), (39, 1, True), (1, 39, True), (20, 21, False), (40, 1, False), (1, 44, False)):
            rest = 45 - first - second
            bodies = [plain_body(picture, 3, 0, first), plain_body(picture, 3, first, second)]
            bodies += [plain_body(picture, 3, first + second, rest)] if rest else []
            sheaf = Sheaf(laid([raw("Head", head_bytes(picture, 3))] + bodies + [raw("Last", [])]))
            if fits:
                sheaf.unite(1)
                self.same(sheaf.body(1), told_body(picture, 3, 0, first + second))
                self.same(read(sheaf.file()), picture)
            else:
                self.refused(NoPlace, sheaf, sheaf.unite, 1)

    def test_refused(self):
        sheaf = Sheaf(self.file)
        for at in NO_NUMBERS + (7, 8):
            self.refused(Beyond, sheaf, sheaf.unite, at)
        # No Body; or a Body whose next chunk is none.
        for at in (0, 1, 2, 5, 6):
            self.refused(NoName, sheaf, sheaf.unite, at)
        sheaf.put(4, "betw", [])
        self.refused(NoName, sheaf, sheaf.unite, 3)
        self.refused(NoName, sheaf, sheaf.unite, 4)
        sheaf.take(4)
        sheaf.unite(3)
        for thing in whatever():
            if exactly(thing) not in (exactly(0), exactly(1), exactly(3)):
                self.refused(Beyond, sheaf, sheaf.unite, thing)

    def test_full(self):
        # Most unitings make a file shorter; of this one they make it longer.
        crafted = Sheaf(self.crafted())
        before = len(crafted.file())
        room = 6000 - before
        crafted.put(1, "long", [0] * 3000)
        crafted.put(1, "long", [0] * (room - 3020))
        self.same(len(crafted.file()), 6000)
        self.refused(Full, crafted, crafted.unite, 3)

    def crafted(self):
        """A file whose two Bodies are shorter than the united one: each is packed, by few signs of its own."""
        chance = random.Random(31)
        for turn in range(2000):
            few = [chance.randrange(256) for sign in range(6)]
            other = [chance.randrange(256) for sign in range(6)]
            rows = [tuple(chance.choice(few if y < 12 else other) for x in range(24)) for y in range(24)]
            picture = (("grey", 8), 24, 24, tuple(rows))
            parts = [raw("Head", head_bytes(picture, 0))]
            for first in (0, 12):
                pixels = [byte for row in rows[first:first + 12] for byte in (0, *row)]
                parts.append(body_with(first, 12, block(pixels)))
            file = laid(parts + [raw("Last", [])])
            sheaf = Sheaf(file)
            sheaf.unite(1)
            if len(sheaf.file()) > len(file):
                return file
        self.fail("no such file was found")


class Back(SheafCase):
    def test_one_by_one_to_the_first_file(self):
        sheaf = Sheaf(self.file)
        states = [self.all_of(sheaf)]
        for deed in (lambda: sheaf.put(1, "abcd", [5]), lambda: sheaf.take(2), lambda: sheaf.call(1, "dcba"),
                     lambda: sheaf.part(4, 1), lambda: sheaf.unite(5), lambda: sheaf.take(1)):
            deed()
            states.append(self.all_of(sheaf))
        for state in states[-2::-1]:
            self.assertIsNone(sheaf.back())
            self.same(self.all_of(sheaf), state)
        self.same(sheaf.file(), self.file)
        for turn in range(2):
            self.refused(NoBack, sheaf, sheaf.back)

    def test_refused_deeds_are_none(self):
        sheaf = Sheaf(self.file)
        self.refused(NoBack, sheaf, sheaf.back)
        self.refused(NoName, sheaf, sheaf.take, 0)
        self.refused(NoBack, sheaf, sheaf.back)
        sheaf.take(1)
        self.refused(Beyond, sheaf, sheaf.take, 99)
        self.refused(NoPlace, sheaf, sheaf.put, 0, "abcd", [])
        sheaf.back()
        self.same(sheaf.file(), self.file)
        self.refused(NoBack, sheaf, sheaf.back)

    def test_deeds_behind_a_back(self):
        sheaf = Sheaf(self.file)
        sheaf.take(1)
        taken = sheaf.file()
        sheaf.take(1)
        sheaf.back()
        sheaf.put(1, "abcd", [])
        sheaf.back()
        self.same(sheaf.file(), taken)
        sheaf.back()
        self.same(sheaf.file(), self.file)
        self.refused(NoBack, sheaf, sheaf.back)

    def test_a_deed_that_changes_nothing_is_a_deed(self):
        sheaf = Sheaf(self.file)
        sheaf.call(1, "note")
        self.same(sheaf.file(), self.file)
        sheaf.back()
        self.refused(NoBack, sheaf, sheaf.back)


class Asked(SheafCase):
    def test_what_is_told_is_the_askers_own(self):
        sheaf = Sheaf(self.file)
        sheaf.put(1, "abcd", [1, 2])
        kept = copy.deepcopy(self.all_of(sheaf))
        for told in self.all_of(sheaf):
            spoil(told)
        self.same(self.all_of(sheaf), kept)
        sheaf.back()
        self.same(sheaf.file(), self.file)

    def test_what_was_handed_in_stays(self):
        file = list(self.file)
        sheaf = Sheaf(file)
        self.same(file, self.file)
        file.clear()
        self.same(sheaf.file(), self.file)

    def test_what_was_told_stays(self):
        sheaf = Sheaf(self.file)
        names, file, body = sheaf.names(), sheaf.file(), sheaf.body(1)
        sheaf.take(1)
        sheaf.unite(2)
        self.same((names, file, body), (self.names, self.file, [1, 2]))

    def test_like_just_where_the_files_are(self):
        one, other = Sheaf(self.file), Sheaf(list(self.file))
        self.assertIs(one == other, True)
        self.assertIs(one != other, False)
        self.assertIs(one == one, True)
        other.take(1)
        self.assertIs(one == other, False)
        self.assertIs(one != other, True)
        one.take(1)
        self.assertIs(one == other, True)
        one.call(1, "abcd")
        other.call(1, "abce")
        self.assertIs(one == other, False)
        other.back()
        one.back()
        self.assertIs(one == other, True)
        # By other deeds to one file.
        one.back()
        one.put(1, "abcd", [])
        one.take(2)
        other.put(1, "abcd", [])
        self.assertIs(one == other, True)

    def test_other_pictures_bodies_and_levels(self):
        files = [written(GREY), written(GREY, levels=1), written(GREY, each=1), written(NAMED), written(GREY, notes=(("note", []),)),
                 written(GREY, notes=(("note", [0]),)), written(GREY, notes=(("note", [1]),)), laid(plain_parts(GREY, 0, 8))]
        for at, file in enumerate(files):
            for number, other in enumerate(files):
                self.assertIs(Sheaf(file) == Sheaf(other), at == number)
                self.assertIs(Sheaf(file) != Sheaf(other), at != number)

    def test_no_other_thing_is_like_a_sheaf(self):
        sheaf = Sheaf(self.file)
        for thing in whatever() + [self.file, sheaf.names(), GREY, object(), sheaf.file, [sheaf], (sheaf,)]:
            self.assertIs(sheaf == thing, False)
            self.assertIs(thing == sheaf, False)
            self.assertIs(sheaf != thing, True)
            self.assertIs(thing != sheaf, True)

    def test_in_a_list(self):
        sheaves = [Sheaf(written(GREY)), Sheaf(written(NAMED)), Sheaf(written(GREY))]
        self.assertIn(Sheaf(written(NAMED)), sheaves)
        self.assertNotIn(Sheaf(written(NAMED, levels=1)), sheaves)
        self.same(sheaves.index(Sheaf(written(NAMED))), 1)
        self.same(sheaves.count(Sheaf(written(GREY))), 2)
        self.assertNotIn(written(GREY), sheaves)

    def test_two_know_nothing_of_one_another(self):
        one, other = Sheaf(self.file), Sheaf(self.file)
        one.take(1)
        other.part(3, 1)
        self.same(one.names(), ["Head", "text", "Body", "Body", "Body", "Last"])
        self.same(other.names(), ["Head", "note", "text", "Body", "Body", "Body", "Body", "Last"])
        one.back()
        self.refused(NoBack, one, one.back)
        other.back()
        self.assertIs(one == other, True)


class Edits(SheafCase):
    def test_any_edits_keep_the_picture(self):
        chance = random.Random(32)
        done = {}
        for picture, levels, parts in other_writers("edits", 25):
            sheaf = Sheaf(laid(parts))
            files = [sheaf.file()]
            for turn in range(25):
                deed, given = self.any_deed(chance, len(sheaf))
                try:
                    getattr(sheaf, deed)(*given)
                    files.append(sheaf.file())
                    done[deed] = done.get(deed, 0) + 1
                except (Beyond, NoName, NoPlace, Full) as error:
                    key = (deed, type(error).__name__)
                    done[key] = done.get(key, 0) + 1
                self.same(sheaf.file(), files[-1])
                self.same(read(sheaf.file()), picture)
                self.same(levels_of(sheaf.file()), levels)
            for file in files[-2::-1]:
                sheaf.back()
                self.same(sheaf.file(), file)
            self.refused(NoBack, sheaf, sheaf.back)
        for deed in ("put", "take", "call", "part", "unite"):
            self.assertGreater(done[deed], 5)
            self.assertGreater(done[(deed, "NoName")] if deed not in ("put",) else done[(deed, "NoPlace")], 5)

    def any_deed(self, chance, many):
        at = chance.randrange(-1, many + 1)
        deed = chance.choice(("put", "take", "call", "part", "unite"))
        more = {
            "put": ("abcd", any_bytes(chance.randrange(20), chance)), "take": (), "call": ("dcba",),
            "part": (chance.randrange(4),), "unite": (),
        }
        return deed, (at, *more[deed])
