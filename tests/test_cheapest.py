"""Prices of sayings, the cheapest one and its table: point 14, and what point 3 says of tables."""

import itertools
import random

from tests.samples import Case, byte_by_byte, exactly, whatever
from tornpictures.cheapest import cheapest, lets_table, price, table
from tornpictures.stretches import said, unsaid

PRICES = ((9, 20), (1, 1), (1, 1000), (1000, 1), (1, 3), (2, 5), (1, 2), (7, 20), (10, 31), (1000, 1000))


def can_be_said(bytes_of, at, far, many):
    """Whether so many bytes are those so far ahead of a place, said over and over again where they are fewer."""
    ahead = bytes_of[at - far:at]
    return (ahead * many)[:many] == bytes_of[at:at + many]


def all_sayings(bytes_of, at):
    """Every way of saying the bytes from a place on, one by one."""
    if at == len(bytes_of):
        yield []
        return
    for rest in all_sayings(bytes_of, at + 1):
        yield [("byte", bytes_of[at])] + rest
    for many in range(3, min(34, len(bytes_of) - at) + 1):
        for far in range(1, min(64, at) + 1):
            if can_be_said(bytes_of, at, far, many):
                for rest in all_sayings(bytes_of, at + many):
                    yield [("again", far, many)] + rest


def wanted_price(saying, single, again):
    return sum({"byte": single, "again": again}[part[0]] for part in saying)


def all_stretches(bytes_of):
    """The beginning and the end of each stretch that can be said again, by the beginning."""
    return [
        (at, at + many)
        for at in range(len(bytes_of)) for many in range(3, min(34, len(bytes_of) - at) + 1)
        if any(can_be_said(bytes_of, at, far, many) for far in range(1, min(64, at) + 1))
    ]


def wanted_table(bytes_of, stretches, single, again):
    """Told from the front: from each place on the least sums of all places behind it."""
    ways = [(at, at + 1, single) for at in range(len(bytes_of))] + [(*stretch, again) for stretch in stretches]
    told = []
    for begin in range(len(bytes_of) + 1):
        sums = {begin: 0}
        for at, end, worth in sorted(ways):
            if at in sums:
                sums[end] = min(sums.get(end, sums[at] + worth), sums[at] + worth)
        told.append(sums[len(bytes_of)])
    return told


def rows_of_bytes():
    """None and up to 60 bytes, in which much, little and nothing can be said again."""
    chance = random.Random(9)
    yield from ([], [0], [7] * 2, [7] * 3, [7] * 4, [7] * 60, list(range(60)), [1, 2, 3] * 20, [1, 2] * 7)
    for many, few in itertools.product((5, 17, 40, 60), (2, 3, 5)):
        yield [chance.randrange(few) for at in range(many)]


class Prices(Case):
    def test_by_hand(self):
        saying = [("byte", 1), ("again", 1, 34), ("byte", 7)]
        self.same(price(saying), 38)
        self.same(price(saying, single=1), 22)
        self.same(price(saying, again=1), 19)
        self.same(price(saying, single=1000, again=3), 2003)
        self.same(price([]), 0)
        self.same(price([], single=1000, again=1000), 0)
        self.same(price([("byte", 0)]), 9)
        self.same(price([("byte", 0), ("again", 1, 3)], single=9, again=20), 29)
        self.same(price([("byte", 0), ("again", 1, 3), ("again", 2, 30)], single=1, again=1), 3)

    def test_of_many_sayings(self):
        for row, (single, again) in itertools.product(rows_of_bytes(), PRICES):
            for saying in (said(row), byte_by_byte(row)):
                self.same(price(saying, single=single, again=again), wanted_price(saying, single, again))
        self.same(price([("byte", 3)] + [("again", 1, 3)] * 1999, single=1000, again=999), 1000 + 999 * 1999)

    def test_handing(self):
        self.same(price(saying=[("byte", 4)], again=3, single=2), 2)
        with self.assertRaises(TypeError):
            price([("byte", 4)], 2)
        self.check_own(price, [("byte", 1), ("again", 1, 5)])


class Table(Case):
    def test_by_hand(self):
        self.same(table([]), [0])
        self.same(table([5]), [9, 0])
        self.same(table([5, 5, 5]), [27, 18, 9, 0])
        self.same(table([5, 5, 5, 5]), [29, 20, 18, 9, 0])
        self.same(table([1, 2, 3] * 3), [47, 38, 29, 20, 20, 20, 20, 18, 9, 0])
        self.same(table([1, 2, 3, 1, 2, 3], single=1, again=5), [6, 5, 4, 3, 2, 1, 0])
        self.same(table([1, 2, 3, 1, 2, 3], single=5, again=1), [16, 11, 6, 1, 10, 5, 0])
        self.same(table([1, 2, 3, 1, 2, 3, 4], single=2), [14, 12, 10, 8, 6, 4, 2, 0])

    def test_where_the_longest_stretch_is_not_the_cheapest(self):
        # The rule says five bytes again, and one singly behind them; three and three are cheaper.
        row = [1, 2, 3, 4, 5, 4, 5, 6, 9, 1, 2, 3, 4, 5, 6]
        self.assertIn(("again", 9, 5), said(row))
        self.same(said(row)[-1], ("byte", 6))
        self.same(table(row, single=10, again=1)[9], 2)
        self.same(price(cheapest(row, single=10, again=1), single=10, again=1), 92)
        self.same(price(said(row), single=10, again=1), 101)

    def test_all_ways_of_saying(self):
        rows = [list(row) for many in range(7) for row in itertools.product((0, 1), repeat=many)]
        rows += [[0] * 8, [1, 2, 3, 1, 2, 3, 1], [0, 0, 0, 1, 0, 0, 0, 1], [1, 2, 3, 4, 1, 2, 3, 4]]
        for row in rows:
            for single, again in PRICES:
                wanted = [
                    min(wanted_price(saying, single, again) for saying in all_sayings(row, at))
                    for at in range(len(row) + 1)
                ]
                self.same(table(row, single=single, again=again), wanted)
                self.same(price(cheapest(row, single=single, again=again), single=single, again=again), wanted[0])

    def test_longer_rows(self):
        for row in rows_of_bytes():
            stretches = all_stretches(row)
            for single, again in PRICES:
                self.same(table(row, single=single, again=again), wanted_table(row, stretches, single, again))

    def test_stretches_of_at_most_34(self):
        self.same(table([7] * 36, single=1000, again=1)[:3], [1000 + 2, 2, 1])
        self.same(table([7] * 35, single=1000, again=1)[0], 1000 + 1)
        self.same(table([7] * 37, single=1000, again=1)[0], 1000 + 2)

    def test_what_is_left_out(self):
        for row in rows_of_bytes():
            self.same(table(row), table(row, single=9, again=20))
            self.same(table(row, single=9), table(row, again=20))
        self.same(table([5, 5, 5, 5], single=1), [4, 3, 2, 1, 0])
        self.same(table([5, 5, 5, 5], again=1), [10, 1, 18, 9, 0])

    def test_handing(self):
        self.same(table(bytes_of=[5], again=3, single=2), [2, 0])
        with self.assertRaises(TypeError):
            table([5], 2)
        for row in ([], [5], [5] * 20):
            self.check_own(table, row)
            self.check_own(table, row, single=1, again=2)


class Cheapest(Case):
    def test_a_saying_of_the_bytes_of_least_price(self):
        for row, (single, again) in itertools.product(rows_of_bytes(), PRICES):
            saying = cheapest(row, single=single, again=again)
            self.check_plain(saying)
            self.same(unsaid(saying), row)
            self.same(wanted_price(saying, single, again), table(row, single=single, again=again)[0])
            self.assertLessEqual(wanted_price(saying, single, again), wanted_price(said(row), single, again))

    def test_by_hand(self):
        self.same(cheapest([]), [])
        self.same(cheapest([4]), [("byte", 4)])
        self.same(cheapest([5, 5, 5, 5]), [("byte", 5), ("again", 1, 3)])
        self.same(cheapest([5, 5, 5, 5], single=1), byte_by_byte([5] * 4))
        self.same(cheapest([5, 6, 7] * 2, again=1), byte_by_byte([5, 6, 7]) + [("again", 3, 3)])

    def test_what_is_left_out(self):
        for row in rows_of_bytes():
            self.same(price(cheapest(row)), price(cheapest(row, single=9, again=20)))
            self.same(price(cheapest(row), single=9, again=20), table(row)[0])

    def test_handing(self):
        self.same(cheapest(bytes_of=[5] * 4, again=1, single=2), [("byte", 5), ("again", 1, 3)])
        with self.assertRaises(TypeError):
            cheapest([5], 2)
        for row in ([], [5], [5] * 20, [1, 2, 3] * 4):
            self.check_own(cheapest, row)
            self.check_own(cheapest, row, single=1, again=2)


class LetsTable(Case):
    def tells(self, row, thing, wanted, **named):
        before = exactly([row, thing])
        self.assertIs(lets_table(row, thing, **named), wanted, before[:300])
        self.assertEqual(exactly([row, thing]), before)

    def test_just_the_table(self):
        for row, (single, again) in itertools.product(rows_of_bytes(), PRICES):
            named = {"single": single, "again": again}
            right = table(row, **named)
            self.tells(row, right, True, **named)
            for at in sorted({0, 1, len(row) // 2, len(row)} & set(range(len(right)))):
                for more in (1, -1, 256, 10 ** 59):
                    self.tells(row, right[:at] + [right[at] + more] + right[at + 1:], False, **named)

    def test_one_left_out_one_more(self):
        for row in ([], [5], [5] * 6, [1, 2, 3, 1, 2, 3, 4]):
            right = table(row)
            for at in range(len(right)):
                self.tells(row, right[:at] + right[at + 1:], False)
                self.tells(row, right[:at + 1] + right[at:], False)
            for more in (0, 1, -1, None, right[0] + 9):
                self.tells(row, right + [more], False)
                self.tells(row, [more] + right, False)
            self.tells(row, right[::-1], right == right[::-1])

    def test_a_truth_in_it(self):
        self.tells([5], [1, 0], True, single=1)
        self.tells([5], [True, 0], False, single=1)
        self.tells([5], [1, False], False, single=1)
        self.tells([5], [True, False], False, single=1)
        self.tells([], [0], True)
        self.tells([], [False], False)
        self.tells([5, 5], [18, 9, False], False)

    def test_things_of_other_kinds(self):
        for row in ([], [5], [5] * 6):
            right = table(row)
            for thing in (tuple(right), str(right), dict(enumerate(right)), None, [right], (right,), right[0], len(row), "",
                          [str(part) for part in right], [[part] for part in right], [(part,) for part in right],
                          right[:-1] + [None], right[:-1] + ["0"], {0: right}, [*right, []], ()):
                self.tells(row, thing, False)

    def test_whatever_thing(self):
        for row in ([], [5], [5] * 6):
            right = table(row)
            for thing in whatever():
                self.tells(row, thing, False)
                self.tells(row, right[:-1] + [thing], exactly(thing) == "int(0)")
                self.tells(row, right + [thing], False)

    def test_a_table_of_other_prices_or_bytes(self):
        row = [1, 2, 3, 1, 2, 3]
        self.tells(row, table(row, single=8), False)
        self.tells(row, table(row, again=19), False)
        self.tells(row, table(row, single=9, again=20), True)
        self.tells(row, table(row), True, single=9, again=20)
        self.tells(row, table(row), False, single=8)
        self.tells(row, table(row), False, again=21)
        self.tells([1, 2, 3, 1, 2, 4], table(row), False)
        self.tells([], [0], True, single=5, again=7)

    def test_handing(self):
        self.assertIs(lets_table(bytes_of=[5], thing=[2, 0], single=2, again=1), True)
        with self.assertRaises(TypeError):
            lets_table([5], [2, 0], 2)
