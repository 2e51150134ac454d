"""Accounts: point 24."""

import copy
import random

from tests.filemaking import (
    GREY, MARK, NAMED, broken_bodies, broken_files, laid, other_writers, places, plain_body, plain_parts, raw, spoilt, wanted,
)
from tests.samples import Case, exactly, whatever
from tornpictures.accounts import account, lets_account
from tornpictures.errors import Broken, PictureError
from tornpictures.files import written
from tornpictures.reader import Reader

NOTE = raw("note", [1, 2, 3])


class AccountCase(Case):
    def told(self, parts, words):
        """That the account is of these words, in turn, from place to place; "body" has its lines behind it."""
        at = places(parts)
        right = [("mark", 0, 4, 0, 0)]
        for number, word in enumerate(words):
            first, many = (0, 0) if isinstance(word, str) else word[1:]
            right.append((word if isinstance(word, str) else word[0], at[number], at[number + 1], first, many))
        self.same(account(laid(parts)), right)
        self.assertIs(lets_account(laid(parts), right), True)
        return right


class Account(AccountCase):
    def test_by_hand(self):
        file = written((("grey", 8), 1, 1, ((7,),)))
        right = [("mark", 0, 4, 0, 0), ("head", 4, 20, 0, 0), ("body", 20, 36, 0, 1), ("last", 36, 46, 0, 0)]
        self.same(account(file), right)
        self.same(account(thing=file), right)
        self.assertIs(lets_account(thing=file, account_of=right), True)

    def test_whole_files(self):
        bodies = [("body", 0, 2), ("body", 2, 2), ("body", 4, 2)]
        self.told(plain_parts(GREY, 0, 2), ["head", *bodies, "last"])
        self.told(plain_parts(NAMED, 1, 2), ["head", "pale", *bodies, "last"])
        parts = plain_parts(NAMED, 1, 2)
        self.told(parts[:1] + [NOTE] + parts[1:3] + [NOTE, NOTE] + parts[3:],
                  ["head", "note", "pale", bodies[0], "note", "note", *bodies[1:], "last"])
        self.told([NOTE] + plain_parts(GREY, 0, 6), ["note", "head", ("body", 0, 6), "last"])

    def test_files_with_broken_chunks(self):
        head, one, two, three, last = plain_parts(GREY, 0, 2)
        first, second, third = ("body", 0, 2), ("body", 2, 2), ("body", 4, 2)
        self.told([head, spoilt(one), two, three, last], ["head", "passed", second, third, "last"])
        self.told([head, one, three, last], ["head", first, third, "last"])
        self.told([head, two, one, three, last], ["head", second, "passed", third, "last"])
        self.told([spoilt(head), head, spoilt(NOTE), one, NOTE, last],
                  ["passed", "head", "passed", first, "note", "last"])
        self.told([head, spoilt(last), one, last], ["head", "passed", first, "last"])
        self.told([head, last], ["head", "last"])
        for why, part in broken_bodies(GREY, 0, 2, 2):
            with self.subTest(why):
                self.told([head, one, part, three, last], ["head", first, "passed", third, "last"])

    def test_without_last_and_cut_short(self):
        parts = plain_parts(GREY, 0, 2)
        bodies = [("body", 0, 2), ("body", 2, 2), ("body", 4, 2)]
        self.told(parts[:-1], ["head", *bodies])
        self.told(parts[:1], ["head"])
        whole = account(laid(parts))
        for many in range(places(parts)[1], len(laid(parts)) + 1):
            cut = laid(parts)[:many]
            right = [entry for entry in whole if entry[2] <= many]
            self.same(account(cut), right)
            self.assertIs(lets_account(cut, right), True)

    def test_bytes_behind_last(self):
        file = laid(plain_parts(GREY, 0, 2))
        right = account(file)
        for more in ([0], [255, 255], NOTE, MARK, file):
            self.same(account(file + more), right)
            self.assertIs(lets_account(file + more, right), True)

    def test_more_than_40_lines(self):
        picture = (("grey", 1), 1, 24, ((1,),) * 24)
        self.told([raw("Head", [0, 1, 1, 24, 0, 0]), plain_body(picture, 0, 0, 24), raw("Last", [])],
                  ["head", ("body", 0, 24), "last"])

    def test_other_writers(self):
        chance = random.Random(29)
        for picture, levels, parts in other_writers("accounts", 40):
            other = [spoilt(part) if chance.randrange(6) == 0 and number > 1 else part for number, part in enumerate(parts)]
            for bytes_of in (laid(parts), laid(other)):
                right = wanted(bytes_of, strict=False, ended=True)
                if right["state"] == "done":
                    told = account(bytes_of)
                    self.same(told, right["account"])
                    self.agrees_with_a_reader(bytes_of, told)

    def agrees_with_a_reader(self, bytes_of, told):
        """The lines told are those of its bodies, and all others are lost."""
        reader = Reader(strict=False)
        numbers = [number for number, pixels in reader.feed(bytes_of)]
        reader.end()
        inside = [number for word, begin, end, first, many in told for number in range(first, first + many)]
        self.same(inside, numbers)
        self.same(reader.passed(), [begin for word, begin, end, first, many in told if word == "passed"])
        self.assertEqual(set(reader.lost()) & set(inside), set())

    def test_handing(self):
        for picture in (GREY, NAMED):
            file = written(picture, each=2)
            self.check_own(account, file)
            self.check_own(account, file[:-1])
            self.check_own(lets_account, file, account(file))


class Refused(AccountCase):
    def refused(self, thing, at):
        before = exactly(thing)
        with self.assertRaises(Broken) as caught:
            account(thing)
        self.same(caught.exception.at, at)
        self.assertIsInstance(caught.exception, PictureError)
        self.assertEqual(exactly(thing), before)
        for other in ([], [("mark", 0, 4, 0, 0)], None):
            self.assertIs(lets_account(thing, other), False)

    def test_what_a_reader_breaks_at(self):
        refused = 0
        for why, bytes_of, at, told in broken_files():
            right = wanted(bytes_of, strict=False, ended=True)
            with self.subTest(why):
                if right["state"] == "broken":
                    self.refused(bytes_of, right["place"])
                    refused += 1
                else:
                    self.same(account(bytes_of), right["account"])
        self.assertGreater(refused, 100)

    def test_by_hand(self):
        parts, named = plain_parts(GREY, 0, 2), plain_parts(NAMED, 1, 2)
        for bytes_of, at in (
            ([], 0), ([84, 80, 13], 0), ([84, 80, 13, 11], 0), (MARK, 4), (MARK + [0], 4), (MARK + parts[0][:-1], 4),
            (MARK + spoilt(parts[0]), 20), (MARK + NOTE, 17), (MARK + NOTE + [0, 0], 17), (laid(named[:1]), 20),
            (laid(named[:1] + [NOTE]), 33), (laid(named[:1] + [named[1][:-1]]), 20), (laid(parts[1:]), 4),
            (laid(parts[:1] + parts), 20), (laid(parts[:1]) + [255, 255], 20), (laid(parts[:2]) + [11, 185], places(parts)[2]),
            (laid(parts[:-1] + [raw("Last", [0])]), places(parts)[4]), (laid(parts[:1] + [raw("Wron", [])]), 20),
        ):
            self.refused(bytes_of, at)

    def test_what_is_no_list_of_bytes(self):
        file = written(GREY)
        for thing in (tuple(file), file + [256], file + [True], file + [None], bytes(file), "", None, {}, {0: 84}):
            self.refused(thing, 0)
            self.assertIs(lets_account(thing, account(file)), False)
        for thing in whatever():
            self.refused(thing, 0)


class Lets(AccountCase):
    def test_just_of_the_account(self):
        for picture, levels, parts in other_writers("lets", 20):
            file = laid(parts)
            right = account(file)
            self.assertIs(lets_account(file, right), True)
            for number, entry in enumerate(right):
                others = [
                    right[:number] + right[number + 1:], right[:number] + [entry] + right[number:],
                    right[:number] + [list(entry)] + right[number + 1:], right[:number],
                    right[:number] + [entry + (0,)] + right[number + 1:], right[:number] + [entry[:-1]] + right[number + 1:],
                ]
                for at in range(5):
                    for other in (entry[at] + 1 if at else "other", None, str(entry[at]) + " ", (entry[at],), [entry[at]]):
                        others.append(right[:number] + [entry[:at] + (other,) + entry[at + 1:]] + right[number + 1:])
                for other in others:
                    self.assertIs(lets_account(file, other), False, other)

    def test_truths(self):
        file = laid(plain_parts(GREY, 0, 1))
        right = account(file)
        changed = 0
        for number, entry in enumerate(right):
            for at in range(1, 5):
                if entry[at] in (0, 1):
                    other = list(right)
                    other[number] = entry[:at] + (bool(entry[at]),) + entry[at + 1:]
                    self.assertEqual(other, right)
                    self.assertIs(lets_account(file, other), False)
                    changed += 1
        self.assertGreater(changed, 10)

    def test_other_kinds(self):
        file = written(GREY)
        right = account(file)
        for other in (tuple(right), {number: entry for number, entry in enumerate(right)}, [right], (right,), str(right), None,
                      [()], [(), ()], [("mark",)], True, [list(entry) for entry in right], [right[0]] * len(right), right[::-1], right + right, []):
            before = exactly(other)
            self.assertIs(lets_account(file, other), False)
            self.assertEqual(exactly(other), before)

    def test_whatever_thing(self):
        file = written(GREY)
        for thing in whatever():
            self.assertIs(lets_account(file, thing), False)
            self.assertIs(lets_account(thing, account(file)), False)
            self.assertIs(lets_account(thing, thing), False)

    def test_the_account_of_another_file(self):
        one, other = written(GREY, each=2), written(GREY, each=3)
        self.assertIs(lets_account(one, account(other)), False)
        self.assertIs(lets_account(other, account(other)), True)

    def test_what_is_told_is_the_askers_own(self):
        file = written(NAMED)
        told = account(file)
        kept = copy.deepcopy(told)
        told.append("more")
        self.same(account(file), kept)
        self.assertIs(lets_account(file, told), False)
        self.assertIs(lets_account(file, kept), True)
