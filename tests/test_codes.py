"""Full lengths, codes, and signs coded and told back: point 16."""

import itertools
import random

from tests.samples import Case, exactly, whatever
from tornpictures.codes import coded, codes, decoded, is_full
from tornpictures.counts import lengths
from tornpictures.errors import NoCode, PictureError

FOUR = [(0, 3), (1, 3), (5, 1), (9, 2)]
SINGLE = [(7, 1)]


def staircase(many):
    """Full lengths of so many signs: 1, 2, 3 and so on, the longest one twice."""
    return [(sign, min(sign + 1, many - 1)) for sign in range(many)]


def any_full(many, chance):
    """Full lengths of so many signs, made by parting one of them in two again and again."""
    told = [1, 1]
    while len(told) < many:
        at = chance.randrange(len(told))
        if told[at] < 60:
            told[at:at + 1] = [told[at] + 1, told[at] + 1]
    chance.shuffle(told)
    return list(zip(sorted(chance.sample(range(512), many)), told))


def some_full():
    chance = random.Random(16)
    yield from (SINGLE, [(0, 1)], [(511, 1)], FOUR, [(0, 1), (1, 1)], [(3, 1), (511, 1)])
    yield from (staircase(many) for many in (2, 3, 30, 61))
    yield [(sign, 8) for sign in range(100, 356)]
    for many in (2, 3, 4, 5, 9, 40, 257, 258, 300):
        for turn in range(3):
            yield any_full(many, chance)


def wanted_codes(lengths_of):
    """By fractions of 2 to the power 60: each code is the place where its share begins."""
    told, place = {}, 0
    for length, sign in sorted((length, sign) for sign, length in lengths_of):
        told[sign] = bin(place + 2 ** 60)[3:3 + length]
        place += 2 ** (60 - length)
    return told


class Full(Case):
    def tells(self, thing, wanted):
        before = exactly(thing)
        self.assertIs(is_full(thing), wanted, before[:300])
        self.assertEqual(exactly(thing), before)

    def test_one_sign(self):
        for sign in (0, 1, 257, 300, 511):
            self.tells([(sign, 1)], True)
            for length in (0, -1, 2, 3, 60, 61, 10 ** 59, True, False, None, "1", (1,), [1]):
                self.tells([(sign, length)], False)

    def test_full_ones(self):
        for full in some_full():
            self.tells(full, True)
        self.tells([(0, 1), (1, 1)], True)
        self.tells([(0, 2), (1, 2), (2, 2), (3, 2)], True)
        self.tells([(0, 2), (1, 1), (2, 2)], True)
        self.tells([(0, 2), (510, 1), (511, 2)], True)

    def test_lengths_up_to_60(self):
        self.tells(staircase(61), True)
        self.assertEqual(staircase(61)[-2:], [(59, 60), (60, 60)])
        self.tells(staircase(62), False)
        self.tells(staircase(61)[::-1], False)

    def test_less_than_1(self):
        for wrong in ([(0, 1), (1, 2)], [(0, 2), (1, 2)], [(0, 2), (1, 2), (2, 2)], [(0, 60), (1, 60)],
                      [(0, 1), (1, 60)], staircase(61)[:-1], staircase(61)[1:], FOUR[1:], FOUR[:-1]):
            self.tells(wrong, False)

    def test_more_than_1(self):
        for wrong in ([(0, 1), (1, 1), (2, 1)], [(0, 1), (1, 1), (2, 60)], FOUR + [(10, 60)], [(0, 1), (1, 1), (2, 2), (3, 2)],
                      staircase(61) + [(99, 60)], [(0, 1), (1, 1), (2, 1), (3, 1)]):
            self.tells(wrong, False)

    def test_one_length_more_or_less(self):
        for full in some_full():
            for at in range(0, len(full), max(1, len(full) // 5)):
                sign, length = full[at]
                for more in (1, -1):
                    self.tells(full[:at] + [(sign, length + more)] + full[at + 1:], False)

    def test_signs_that_do_not_rise(self):
        self.tells([(1, 1), (0, 1)], False)
        self.tells([(1, 1), (1, 1)], False)
        self.tells([(0, 2), (2, 2), (1, 1)], False)
        self.tells([(0, 2), (0, 2), (1, 1)], False)
        self.tells([(0, 1), (1, 2), (1, 2)], False)
        self.tells(FOUR[::-1], False)
        self.tells([FOUR[0], FOUR[2], FOUR[1], FOUR[3]], False)

    def test_signs_beyond(self):
        for sign in (-1, -2, 512, 513, 10 ** 59, -10 ** 59):
            self.tells([(sign, 1)], False)
            self.tells(sorted([(5, 1), (sign, 1)]), False)
        self.tells([(0, 1), (511, 1)], True)

    def test_how_many(self):
        self.tells([], False)
        chance = random.Random(17)
        for many in (300, 301, 302, 400, 512):
            self.tells(any_full(many, chance), many <= 300)

    def test_truths_and_others_for_numbers(self):
        for wrong in (True, False, None, "", "0", "1", (0,), (1,), [0], [1], {}, {0: 1}):
            self.tells([(wrong, 1)], False)
            self.tells([(wrong, 1), (2, 1)], False)
            self.tells([(0, wrong), (1, 1)], False)
            self.tells([(0, 1), (1, wrong)], False)
            self.tells([(0, 1), (wrong, 1)], False)
        self.tells([(0, 1), (1, 1)], True)

    def test_lengths_beyond(self):
        for length in (0, -1, 61, 62, 63, 10 ** 59, -10 ** 59):
            self.tells([(0, length)], False)
            self.tells([(0, length), (1, length)], False)
            self.tells([(0, 1), (1, 1), (2, length)], False)
        self.tells([(0, 1), (1, 1), (2, 10 ** 20)], False)

    def test_other_kinds_of_lists_and_tuples(self):
        for full in (SINGLE, FOUR, [(0, 1), (1, 1)]):
            self.tells(tuple(full), False)
            self.tells(dict(full), False)
            self.tells({0: full}, False)
            self.tells([full], False)
            self.tells(str(full), False)
            for at, part in enumerate(full):
                for wrong in (list(part), (*part, 1), (*part, None), part[:1], (), part[0], {part[0]: part[1]}, None, "",
                              str(part), (part,), (part, part), [part]):
                    self.tells(full[:at] + [wrong] + full[at + 1:], False)

    def test_whatever_thing(self):
        for thing in whatever():
            self.tells(thing, False)
            self.tells([thing], False)
            self.tells([(0, 1), thing], False)
            self.tells([(thing, 1)], isinstance(thing, int) and not isinstance(thing, bool) and 0 <= thing <= 511)
            self.tells([(5, thing)], exactly(thing) == "int(1)")

    def test_handing(self):
        self.assertIs(is_full(thing=[(0, 1)]), True)


class Codes(Case):
    def test_by_hand(self):
        self.same(codes(SINGLE), {7: "0"})
        self.same(sorted(codes(FOUR).items()), [(0, "110"), (1, "111"), (5, "0"), (9, "10")])
        self.same(sorted(codes([(0, 1), (1, 1)]).items()), [(0, "0"), (1, "1")])
        self.same(sorted(codes([(2, 2), (4, 2), (6, 1)]).items()), [(2, "10"), (4, "11"), (6, "0")])
        self.same(
            sorted(codes([(1, 2), (2, 3), (3, 3), (4, 2), (5, 2)]).items()),
            [(1, "00"), (2, "110"), (3, "111"), (4, "01"), (5, "10")],
        )

    def test_by_lengths_and_by_signs(self):
        for full in some_full():
            told = codes(full)
            self.assertEqual(told, wanted_codes(full))
            self.assertEqual({sign: len(told[sign]) for sign in told}, dict(full))
            self.assertIs(type(told), dict)
            for sign in told:
                self.assertIs(type(sign), int)
                self.assertIs(type(told[sign]), str)

    def test_none_begins_another_one(self):
        for full in some_full():
            told = sorted(codes(full).values())
            # Of sorted texts one that begins another one begins the next one, too.
            for one, other in zip(told, told[1:]):
                self.assertFalse(other.startswith(one))

    def test_the_first_one_is_of_0s_the_last_one_of_1s(self):
        for full in some_full():
            told = codes(full)
            first, last = [pick((length, sign) for sign, length in full)[1] for pick in (min, max)]
            self.assertEqual(set(told[first]), {"0"})
            self.assertEqual(set(told[last]), {"1"} if len(full) > 1 else {"0"})

    def test_handing(self):
        self.same(codes(lengths_of=[(4, 1)]), {4: "0"})
        for full in (SINGLE, FOUR, [(0, 1), (1, 1)]):
            self.check_own(codes, full)


class Coded(Case):
    def test_by_hand(self):
        self.same(coded([], FOUR), "")
        self.same(coded([5, 9, 0, 1, 5], FOUR), "0101101110")
        self.same(coded([7, 7, 7], SINGLE), "000")
        self.same(coded(signs=[1, 0], lengths_of=[(0, 1), (1, 1)]), "10")

    def test_by_the_codes(self):
        chance = random.Random(18)
        for full in some_full():
            signs = [chance.choice(full)[0] for turn in range(50)]
            self.same(coded(signs, full), "".join(wanted_codes(full)[sign] for sign in signs))

    def test_handing(self):
        self.check_own(coded, [5, 9, 0], FOUR)
        self.check_own(coded, [], SINGLE)


class Decoded(Case):
    def test_by_hand(self):
        self.same(decoded("0101101110", FOUR, many=5), ([5, 9, 0, 1, 5], 10))
        self.same(decoded("0101101110", FOUR), ([5], 1))
        self.same(decoded("0101101110", FOUR, at=1), ([9], 3))
        self.same(decoded("0101101110", FOUR, many=2, at=3), ([0, 1], 9))
        self.same(decoded("110", FOUR, at=1), ([9], 3))
        self.same(decoded("000", SINGLE, many=3), ([7, 7, 7], 3))
        self.same(decoded("100", SINGLE, many=2, at=1), ([7, 7], 3))

    def test_no_signs(self):
        for text in ("", "0", "1", "0101101110"):
            for at in range(len(text) + 1):
                self.same(decoded(text, FOUR, many=0, at=at), ([], at))
                self.same(decoded(text, SINGLE, many=0, at=at), ([], at))
        self.same(decoded("1", SINGLE, many=0), ([], 0))

    def test_there_and_back(self):
        chance = random.Random(19)
        for full in some_full():
            signs = [chance.choice(full)[0] for turn in range(40)]
            text = coded(signs, full)
            self.same(decoded(text, full, many=40), (signs, len(text)))
            self.same(decoded("10" + text + "01", full, many=40, at=2), (signs, len(text) + 2))
            part = len(coded(signs[:17], full))
            self.same(decoded(text, full, many=17), (signs[:17], part))
            self.same(decoded(text, full, many=23, at=part), (signs[17:], len(text)))
            self.same(decoded(text, full, many=1, at=part), decoded(text, full, at=part))
            self.same(decoded(text, full), ([signs[0]], len(coded(signs[:1], full))))

    def test_long_texts(self):
        self.same(decoded("0" * 20000, SINGLE, many=20000), ([7] * 20000, 20000))
        self.same(decoded("10" * 10000, FOUR, many=10000), ([9] * 10000, 20000))
        last = "1" * 60
        self.same(decoded(last * 3, staircase(61), many=3), ([60, 60, 60], 180))

    def test_codes_of_60_signs(self):
        full = staircase(61)
        self.same(decoded("1" * 59 + "0", full), ([59], 60))
        self.same(decoded("1" * 60, full), ([60], 60))
        self.same(decoded("0" + "1" * 60 + "1", full, at=1), ([60], 61))

    def test_lengths_of_counts(self):
        chance = random.Random(20)
        for many in (1, 2, 3, 9, 60, 258, 300):
            for most in (1, 5, 10 ** 9):
                counts = [(sign, chance.randrange(1, most + 1)) for sign in sorted(chance.sample(range(512), many))]
                full = lengths(counts)
                self.assertIs(is_full(full), True)
                signs = [chance.choice(counts)[0] for turn in range(60)]
                text = coded(signs, full)
                self.same(decoded(text, full, many=60), (signs, len(text)))

    def test_handing(self):
        self.same(decoded(text="10", lengths_of=FOUR, many=1, at=0), ([9], 2))
        with self.assertRaises(TypeError):
            decoded("10", FOUR, 1)
        self.check_own(decoded, "0101101110", FOUR, many=5)
        self.check_own(decoded, "0101101110", FOUR, many=0, at=3)


class NoSuchCode(Case):
    def refused(self, begin, text, lengths_of, **named):
        before = exactly(lengths_of)
        with self.assertRaises(NoCode) as caught:
            decoded(text, lengths_of, **named)
        self.same(caught.exception.at, begin)
        self.assertIsInstance(caught.exception, PictureError)
        self.assertEqual(exactly(lengths_of), before)

    def test_the_text_ends_ahead_of_a_code(self):
        for full in some_full():
            self.refused(0, "", full)
            self.refused(0, "", full, many=5)
            signs = [sign for sign, length in full[:5]]
            text = coded(signs, full)
            self.refused(len(text), text, full, many=len(signs) + 1)
            self.refused(len(text), text, full, at=len(text))
            self.refused(len(text), text, full, at=len(text), many=9)

    def test_the_text_ends_within_a_code(self):
        for full in some_full():
            signs = [sign for sign, length in full[-5:]]
            text = coded(signs, full)
            begins = [0]
            for sign in signs:
                begins.append(begins[-1] + dict(full)[sign])
            for cut, first in itertools.product(range(len(text)), range(len(signs))):
                if begins[first] <= cut:
                    wrong = max(begin for begin in begins if begin <= cut)
                    self.refused(wrong, text[:cut], full, many=len(signs) - first, at=begins[first])

    def test_by_hand(self):
        self.refused(0, "1", FOUR)
        self.refused(0, "11", FOUR)
        self.refused(2, "1011", FOUR, many=2)
        self.refused(3, "0101", FOUR, many=3)
        self.refused(1, "01", FOUR, at=1)
        self.refused(0, "1" * 59, staircase(61))

    def test_a_code_that_is_none(self):
        self.refused(0, "1", SINGLE)
        self.refused(0, "11111", SINGLE)
        self.refused(2, "001", SINGLE, many=3)
        self.refused(2, "0010", SINGLE, many=4)
        self.refused(1, "010", SINGLE, at=1)
        self.refused(0, "10", SINGLE, many=2)
        self.refused(0, "1" * 20000, SINGLE)
        self.refused(0, "1" + "0" * 99, SINGLE)
        self.same(decoded("001", SINGLE, many=2), ([7, 7], 2))
