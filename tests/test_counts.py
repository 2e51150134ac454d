"""Lengths of short codes, and the paper of joinings: point 15, and what point 3 says of codes."""

import itertools
import random

from tests.samples import Case, exactly, whatever
from tornpictures.counts import joinings, lengths, lets_joinings


def wanted_joinings(counts):
    """The rule, word by word, over a list of groups as tuples (sum, signs)."""
    groups = [(count, (sign,)) for sign, count in counts]
    told = []
    while len(groups) > 1:
        chosen = []
        for turn in range(2):
            least = min(groups, key=lambda group: (group[0], min(group[1])))
            groups.remove(least)
            chosen.append(least)
        told.append((chosen[0][1], chosen[1][1]))
        groups.append((chosen[0][0] + chosen[1][0], tuple(sorted(chosen[0][1] + chosen[1][1]))))
    return told


def wanted_lengths(counts):
    paper = wanted_joinings(counts)
    return [
        (sign, 1 if len(counts) == 1 else sum(sign in one or sign in other for one, other in paper))
        for sign, count in counts
    ]


def full_lengths(many):
    """All tuples of so many lengths whose halves to that power make just 1."""
    for told in itertools.product(range(1, many), repeat=many):
        if sum(2 ** (many - length) for length in told) == 2 ** many:
            yield told


def some_counts():
    """One sign alone, two, many; alike, doubling, and any."""
    chance = random.Random(15)
    yield from ([(0, 1)], [(511, 10 ** 9)], [(0, 1), (1, 1)], [(5, 9), (7, 2)], [(5, 2), (7, 9)])
    yield [(sign, 1 << sign) for sign in range(30)]
    yield [(sign, 1 << (29 - sign)) for sign in range(30)]
    for many in (3, 4, 5, 7, 8, 9, 16, 33, 258, 300):
        signs = sorted(chance.sample(range(512), many))
        for most in (1, 2, 3, 10, 1000, 10 ** 9):
            yield [(sign, chance.randrange(1, most + 1)) for sign in signs]
    for turn in range(60):
        signs = sorted(chance.sample(range(512), chance.randrange(1, 12)))
        yield [(sign, chance.randrange(1, 5)) for sign in signs]


class Joinings(Case):
    def test_by_hand(self):
        self.same(joinings([(7, 3)]), [])
        self.same(joinings([(7, 3), (9, 3)]), [((7,), (9,))])
        self.same(joinings([(7, 3), (9, 2)]), [((9,), (7,))])
        self.same(joinings([(0, 5), (1, 1), (2, 2)]), [((1,), (2,)), ((1, 2), (0,))])
        self.same(joinings([(0, 1), (1, 1), (2, 2), (3, 3)]), [((0,), (1,)), ((0, 1), (2,)), ((3,), (0, 1, 2))])
        self.same(joinings([(1, 4), (3, 1), (5, 4), (9, 1)]), [((3,), (9,)), ((3, 9), (1,)), ((5,), (1, 3, 9))])

    def test_counts_alike(self):
        self.same(joinings([(0, 1), (1, 1), (2, 1), (3, 1)]), [((0,), (1,)), ((2,), (3,)), ((0, 1), (2, 3))])
        self.same(joinings([(2, 7), (4, 7), (6, 7)]), [((2,), (4,)), ((6,), (2, 4))])
        # Of groups of one sum the one with the least sign goes first, single or not.
        self.same(joinings([(0, 2), (1, 1), (2, 1)]), [((1,), (2,)), ((0,), (1, 2))])
        self.same(joinings([(0, 1), (1, 2), (2, 1)]), [((0,), (2,)), ((0, 2), (1,))])
        self.same(
            joinings([(0, 3), (1, 2), (2, 1), (3, 1), (4, 2)]),
            [((2,), (3,)), ((1,), (2, 3)), ((4,), (0,)), ((1, 2, 3), (0, 4))],
        )

    def test_by_the_rule(self):
        for counts in some_counts():
            self.same(joinings(counts), wanted_joinings(counts))
            self.same(len(joinings(counts)), len(counts) - 1)

    def test_doubling(self):
        counts = [(sign, 1 << sign) for sign in range(30)]
        self.same(joinings(counts)[0], ((0,), (1,)))
        self.same(joinings(counts)[-1], (tuple(range(29)), (29,)))

    def test_all_small_counts(self):
        for many in (1, 2, 3, 4):
            for told in itertools.product((1, 2, 3), repeat=many):
                counts = [(3 * at, count) for at, count in enumerate(told)]
                self.same(joinings(counts), wanted_joinings(counts))

    def test_handing(self):
        self.same(joinings(counts=[(4, 1), (6, 1)]), [((4,), (6,))])
        for counts in ([(0, 1)], [(0, 1), (1, 1)], [(0, 3), (1, 2), (2, 1), (3, 1), (4, 2)]):
            self.check_own(joinings, counts)


class Lengths(Case):
    def test_by_hand(self):
        self.same(lengths([(0, 1), (1, 1), (2, 2), (3, 3)]), [(0, 3), (1, 3), (2, 2), (3, 1)])
        self.same(lengths([(0, 1), (1, 1), (2, 1), (3, 1)]), [(0, 2), (1, 2), (2, 2), (3, 2)])
        self.same(lengths([(2, 7), (4, 7), (6, 7)]), [(2, 2), (4, 2), (6, 1)])
        self.same(lengths([(0, 3), (1, 2), (2, 1), (3, 1), (4, 2)]), [(0, 2), (1, 2), (2, 3), (3, 3), (4, 2)])
        self.same(lengths([(3, 1), (8, 10 ** 9)]), [(3, 1), (8, 1)])

    def test_one_sign_alone(self):
        for sign, count in itertools.product((0, 1, 257, 511), (1, 2, 10 ** 9)):
            self.same(lengths([(sign, count)]), [(sign, 1)])
            self.same(joinings([(sign, count)]), [])

    def test_how_often_a_group_was_joined(self):
        for counts in some_counts():
            self.same(lengths(counts), wanted_lengths(counts))

    def test_doubling(self):
        rising = [(sign, 1 << sign) for sign in range(30)]
        self.same(lengths(rising), [(0, 29)] + [(sign, 30 - sign) for sign in range(1, 30)])
        falling = [(sign, 1 << (29 - sign)) for sign in range(30)]
        self.same(lengths(falling), [(sign, sign + 1) for sign in range(29)] + [(29, 29)])

    def test_no_other_lengths_make_a_lesser_sum(self):
        for many in (2, 3, 4, 5):
            ways = list(full_lengths(many))
            for told in itertools.product((1, 2, 4, 7), repeat=many):
                sums = [sum(count * length for count, length in zip(told, way)) for way in ways]
                own = lengths(list(enumerate(told)))
                self.same(sum(count * length for count, (sign, length) in zip(told, own)), min(sums))

    def test_they_just_fill(self):
        for counts in some_counts():
            told = lengths(counts)
            self.assertEqual([sign for sign, length in told], [sign for sign, count in counts])
            if len(counts) > 1:
                self.assertEqual(sum(2 ** (60 - length) for sign, length in told), 2 ** 60)

    def test_handing(self):
        self.same(lengths(counts=[(4, 1), (6, 1)]), [(4, 1), (6, 1)])
        for counts in ([(0, 1)], [(0, 1), (1, 1)], [(0, 3), (1, 2), (2, 1), (3, 1), (4, 2)]):
            self.check_own(lengths, counts)


class LetsJoinings(Case):
    def tells(self, counts, thing, wanted):
        before = exactly([counts, thing])
        self.assertIs(lets_joinings(counts, thing), wanted, before[:300])
        self.assertEqual(exactly([counts, thing]), before)

    def test_the_paper(self):
        for counts in some_counts():
            self.tells(counts, wanted_joinings(counts), True)
            self.tells(counts, joinings(counts), True)

    def test_another_paper(self):
        counts = [(0, 3), (1, 2), (2, 1), (3, 1), (4, 2)]
        right = joinings(counts)
        for at in range(len(right)):
            one, other = right[at]
            for wrong in ((other, one), (one, one), (one, other, ()), (one,), (), (one + other,), one + other,
                          (one, other[:-1]), (one, other + (9,)), ((9,) + one, other), (one[::-1] + (9,), other),
                          [one, other], (list(one), other), (one, list(other)), {0: one, 1: other}, None, 0, "",
                          (one, None), (None, other), (one, other[0]), (one, "1"), ((one,), other), (one, (other,))):
                self.tells(counts, right[:at] + [wrong] + right[at + 1:], False)
            self.tells(counts, right[:at] + right[at + 1:], False)
            self.tells(counts, right[:at + 1] + right[at:], False)
            self.tells(counts, right[:at] + [((5,), (6,))] + right[at:], False)
        self.tells(counts, right + [((5,), (6,))], False)
        self.tells(counts, right[::-1], False)
        self.tells(counts, [right[0], right[2], right[1], right[3]], False)

    def test_another_choice_that_makes_codes_as_short(self):
        counts = [(0, 1), (1, 1), (2, 1), (3, 1)]
        self.tells(counts, [((0,), (1,)), ((2,), (3,)), ((0, 1), (2, 3))], True)
        self.tells(counts, [((2,), (3,)), ((0,), (1,)), ((0, 1), (2, 3))], False)
        self.tells(counts, [((0,), (2,)), ((1,), (3,)), ((0, 2), (1, 3))], False)
        self.tells(counts, [((0,), (1,)), ((2,), (3,)), ((2, 3), (0, 1))], False)
        self.tells(counts, [((0,), (1,)), ((2,), (3,)), ((1, 0), (2, 3))], False)

    def test_other_signs(self):
        self.tells([(0, 1), (1, 2)], [((0,), (1,))], True)
        self.tells([(0, 1), (1, 2)], [((0,), (2,))], False)
        self.tells([(0, 1), (1, 2)], [((2,), (1,))], False)
        self.tells([(0, 2), (1, 1)], [((0,), (1,))], False)

    def test_truths_in_place_of_0_and_1(self):
        self.tells([(0, 1), (1, 2)], [((False,), (1,))], False)
        self.tells([(0, 1), (1, 2)], [((0,), (True,))], False)
        self.tells([(0, 1), (1, 2)], [((False,), (True,))], False)
        counts = [(0, 3), (1, 2), (2, 1)]
        self.tells(counts, [((2,), (1,)), ((0,), (1, 2))], True)
        self.tells(counts, [((2,), (True,)), ((0,), (1, 2))], False)
        self.tells(counts, [((2,), (1,)), ((False,), (1, 2))], False)
        self.tells(counts, [((2,), (1,)), ((0,), (True, 2))], False)

    def test_lists_in_place_of_tuples(self):
        self.tells([(0, 1), (1, 2)], [[(0,), (1,)]], False)
        self.tells([(0, 1), (1, 2)], [([0], (1,))], False)
        self.tells([(0, 1), (1, 2)], [((0,), [1])], False)
        self.tells([(0, 1), (1, 2)], (((0,), (1,)),), False)
        self.tells([(0, 1)], (), False)
        self.tells([(0, 1)], [], True)

    def test_whatever_thing(self):
        for counts in ([(0, 1)], [(0, 1), (1, 2)], [(0, 3), (1, 2), (2, 1)]):
            right = joinings(counts)
            for thing in whatever():
                self.tells(counts, thing, thing == [] and len(counts) == 1)
                self.tells(counts, right + [thing], False)
                self.tells(counts, [thing] + right, False)
                self.tells(counts, [thing] + right[1:], False)
                self.tells(counts, [(thing, (1,))], thing == (0,) and len(counts) == 2)
                self.tells(counts, [((0,), thing)], False)
                if len(counts) == 2:
                    self.tells(counts, [((0,), (thing,))], exactly(thing) == "int(1)")
                    self.tells(counts, [((thing,), (1,))], exactly(thing) == "int(0)")

    def test_handing(self):
        self.assertIs(lets_joinings(counts=[(0, 1), (1, 2)], thing=[((0,), (1,))]), True)
