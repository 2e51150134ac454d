"""Costs, and the chosen filter: point 7, and what point 3 says of filters."""

import copy
import itertools
import random

from tests.samples import Case, any_bytes, exactly, whatever
from tornpictures.costs import chosen, cost, costs, is_chosen
from tornpictures.filters import filtered, undone

STEPS = (1, 3, 24)


def wanted_cost(row):
    return sum(byte if byte <= 128 else 256 - byte for byte in row)


def wanted_chosen(row, above, step):
    """Of all filtered rows the cheapest, of those as cheap the one of the least filter."""
    told = [(wanted_cost(filtered(number, row, above, step=step)), number) for number in range(5)]
    number = sorted(told)[0][1]
    return (number, filtered(number, row, above, step=step))


def rows_and_above():
    """Rows of many lengths that differ little and much from the rows above, and what few bytes can make."""
    chance = random.Random(7)
    for many in (0, 1, 2, 3, 5, 24, 72):
        for turn in range(12):
            row = any_bytes(many, chance)
            yield row, any_bytes(many, chance)
            yield row, [0] * many
            yield row, list(row)
            yield row, [(byte + chance.randrange(-2, 3)) % 256 for byte in row]
            smooth = [(at * turn + chance.randrange(2)) % 256 for at in range(many)]
            yield smooth, [(byte + turn) % 256 for byte in smooth]
    for row in itertools.product((0, 1, 2, 255), repeat=2):
        for above in itertools.product((0, 1, 2, 254), repeat=2):
            yield list(row), list(above)


class Costs(Case):
    def test_the_cost_of_single_bytes(self):
        for byte, wanted in ((0, 0), (1, 1), (127, 127), (128, 128), (129, 127), (255, 1), (254, 2), (200, 56)):
            self.same(cost([byte]), wanted)
        for byte in range(256):
            self.same(cost([byte]), wanted_cost([byte]))
            self.same(cost([byte, byte, 3]), 2 * wanted_cost([byte]) + 3)

    def test_the_cost_of_rows(self):
        self.same(cost([]), 0)
        self.same(cost([0, 1, 127, 128, 129, 255]), 384)
        self.same(cost([128] * 72), 128 * 72)
        self.same(cost(row=[255, 255]), 2)
        for row, above in rows_and_above():
            self.same(cost(row), wanted_cost(row))

    def test_costs_by_hand(self):
        self.same(costs([10, 20], [7, 9]), [30, 20, 14, 7 + 11, 3 + 10])
        self.same(costs([], []), [0, 0, 0, 0, 0])
        self.same(costs([10, 20], [7, 9], step=2), [30, 30, 14, 7 + 16, 14])

    def test_costs_are_those_of_the_filtered_rows(self):
        for row, above in rows_and_above():
            for step in STEPS:
                wanted = [wanted_cost(filtered(number, row, above, step=step)) for number in range(5)]
                self.same(costs(row, above, step=step), wanted)

    def test_the_step_left_out_is_1(self):
        for row, above in rows_and_above():
            self.same(costs(row, above), costs(row, above, step=1))
        self.same(costs([1, 2, 3, 9], [0] * 4)[1], 1 + 1 + 1 + 6)
        self.same(costs([1, 2, 3, 9], [0] * 4, step=3)[1], 1 + 2 + 3 + 8)

    def test_handing(self):
        self.same(costs(row=[3], above=[4], step=3), [3, 3, 1, 1, 1])
        with self.assertRaises(TypeError):
            costs([3], [4], 3)
        self.check_own(cost, [3, 255, 0])
        self.check_own(costs, [3, 255, 0], [1, 2, 3], step=1)
        self.check_own(costs, [], [])


class Chosen(Case):
    def test_by_hand(self):
        self.same(chosen([10, 20], [7, 9]), (4, [3, 10]))
        self.same(chosen([10, 20, 30], [0, 0, 0]), (1, [10, 10, 10]))
        self.same(chosen([10, 20, 30], [10, 20, 30]), (2, [0, 0, 0]))
        self.same(chosen([0, 0, 0], [9, 9, 9]), (0, [0, 0, 0]))
        self.same(chosen([100, 150], [200, 200]), (3, [0, 0]))

    def test_of_filters_that_cost_alike_the_least(self):
        self.same(chosen([0, 0], [0, 0]), (0, [0, 0]))  # all five
        self.same(chosen([5], [5]), (2, [0]))  # 2 and 4
        self.same(chosen([5, 5], [0, 0]), (1, [5, 0]))  # 1 and 4
        self.same(chosen([3], [4]), (2, [255]))  # 2, 3 and 4
        self.same(chosen([255, 1], [0, 0]), (0, [255, 1]))  # 0 and 2
        self.same(chosen([5], [0], step=24), (0, [5]))  # all five

    def test_some_filters_do_cost_alike(self):
        alike = 0
        for row, above in rows_and_above():
            told = costs(row, above)
            alike += told.count(min(told)) > 1
            self.same(chosen(row, above)[0], told.index(min(told)))
        self.assertGreater(alike, 50)

    def test_the_cheapest_of_many_rows(self):
        seen = set()
        for row, above in rows_and_above():
            for step in STEPS:
                told = chosen(row, above, step=step)
                seen.add(told[0])
                self.same(told, wanted_chosen(row, above, step))
                self.same(undone(told[0], told[1], above, step=step), row)
        self.assertEqual(seen, {0, 1, 2, 3, 4})

    def test_an_empty_row(self):
        for step in STEPS:
            self.same(chosen([], [], step=step), (0, []))
        self.same(chosen([], []), (0, []))

    def test_the_step_left_out_is_1(self):
        self.same(chosen([10, 20, 30, 40], [0] * 4), (1, [10] * 4))
        self.same(chosen([1, 2, 3, 1, 2, 3], [0] * 6, step=3), (1, [1, 2, 3, 0, 0, 0]))
        for row, above in rows_and_above():
            self.same(chosen(row, above), wanted_chosen(row, above, 1))

    def test_handing(self):
        self.same(chosen(row=[5, 6, 5], above=[0, 0, 0], step=2), (1, [5, 6, 0]))
        with self.assertRaises(TypeError):
            chosen([3], [4], 3)
        for row, above in (([], []), ([0, 0], [3, 4]), ([5, 6, 5], [0, 0, 0]), ([5, 6], [5, 6]), ([10, 20], [7, 9])):
            self.check_own(chosen, row, above)
            self.check_own(chosen, row, above, step=3)

    def test_filter_0_tells_no_list_that_was_handed_in(self):
        row, above = [0, 0, 0], [0, 0, 0]
        told = chosen(row, above)
        told[1].append(1)
        self.same((row, above), ([0, 0, 0], [0, 0, 0]))
        self.same(chosen(row, above), (0, [0, 0, 0]))


class IsChosen(Case):
    def tells(self, row, above, thing, wanted, **named):
        before = exactly([row, above, thing])
        self.assertIs(is_chosen(row, above, thing, **named), wanted, before[:300])
        self.assertEqual(exactly([row, above, thing]), before)

    def test_just_the_chosen_one(self):
        for row, above in rows_and_above():
            for step in STEPS:
                told = wanted_chosen(row, above, step)
                for number in range(5):
                    thing = (number, filtered(number, row, above, step=step))
                    self.tells(row, above, thing, number == told[0], step=step)
                    self.tells(row, above, (number, list(told[1])), number == told[0], step=step)
                self.tells(row, above, chosen(row, above, step=step), True, step=step)

    def test_another_filter(self):
        row, above = [10, 20, 30], [0, 0, 0]
        for number in (0, 2, 3, 4, 5, -1, 10 ** 59, True, False, "1", "", None, (1,), [1], {1: 1}):
            self.tells(row, above, (number, [10, 10, 10]), False)
        self.tells(row, above, (1, [10, 10, 10]), True)

    def test_a_truth_for_the_filter(self):
        self.tells([0], [0], (False, [0]), False)
        self.tells([0], [0], (0, [0]), True)
        self.tells([], [], (False, []), False)
        self.tells([5, 5], [0, 0], (True, [5, 0]), False)
        self.tells([5, 5], [0, 0], (1, [5, 0]), True)

    def test_another_byte(self):
        for row, above in (([10, 20, 31], [0, 0, 0]), ([0, 0, 0], [0, 0, 0]), ([1, 2, 3], [1, 2, 3])):
            number, told = chosen(row, above)
            for at in range(3):
                for thing in ((told[at] + 1) % 256, told[at] - 256, told[at] + 256, bool(told[at]), True, False, None,
                              str(told[at]), "", [told[at]], (told[at],), [], {}, 10 ** 59):
                    if exactly(thing) != exactly(told[at]):
                        self.tells(row, above, (number, told[:at] + [thing] + told[at + 1:]), False)

    def test_a_truth_for_a_byte(self):
        self.tells([1, 2, 2], [0, 0, 0], (1, [1, 1, 0]), True)
        self.tells([1, 2, 2], [0, 0, 0], (1, [True, 1, 0]), False)
        self.tells([1, 2, 2], [0, 0, 0], (1, [1, True, 0]), False)
        self.tells([1, 2, 2], [0, 0, 0], (1, [1, 1, False]), False)

    def test_bytes_left_out_twice_or_exchanged(self):
        for row, above in (([10, 25, 31], [0, 0, 0]), ([0, 0], [0, 0]), ([7], [0])):
            number, told = chosen(row, above)
            for at in range(len(told)):
                self.tells(row, above, (number, told[:at] + told[at + 1:]), False)
                self.tells(row, above, (number, told[:at + 1] + told[at:]), False)
            self.tells(row, above, (number, told + [0]), False)
            self.tells(row, above, (number, [0] + told), False)
            self.tells(row, above, (number, told[::-1]), told == told[::-1])
            self.tells(row, above, (number, []), False)

    def test_a_list_for_the_tuple_a_tuple_for_the_list(self):
        for row, above in (([10, 20], [0, 0]), ([], []), ([0], [0])):
            number, told = chosen(row, above)
            for thing in ([number, told], (number, tuple(told)), [number, tuple(told)], (number, dict(enumerate(told))),
                          {number: tuple(told)}, {0: number, 1: told}, (number, str(told)), (number, None), str((number, told)),
                          (number,), (told,), (number, told, 0), (number, told, told), (number, told, None), (told, number),
                          (number, [told]), ((number, told),), [(number, told)], (number, *told), number, told, ()):
                self.tells(row, above, thing, False)

    def test_whatever_thing(self):
        for row, above in (([], []), ([0, 0, 0], [0, 0, 0]), ([10, 20], [7, 9])):
            number, told = chosen(row, above)
            for thing in whatever():
                self.tells(row, above, thing, False)
                self.tells(row, above, (thing, told), exactly(thing) == exactly(number))
                self.tells(row, above, (number, thing), exactly(thing) == exactly(told))
                self.tells(row, above, (number, told + [thing]), False)
                self.tells(row, above, (number, [thing] + told[1:]), exactly([thing] + told[1:]) == exactly(told))

    def test_the_step(self):
        row, above = [1, 2, 3, 1, 2, 3], [0] * 6
        self.tells(row, above, (1, [1, 2, 3, 0, 0, 0]), True, step=3)
        self.tells(row, above, (1, [1, 2, 3, 0, 0, 0]), False)
        self.tells(row, above, chosen(row, above), True)
        self.tells(row, above, chosen(row, above), False, step=3)
        self.assertIs(is_chosen(row=row, above=above, thing=(1, [1, 2, 3, 0, 0, 0]), step=3), True)
        with self.assertRaises(TypeError):
            is_chosen(row, above, (1, [1, 2, 3, 0, 0, 0]), 3)


class SeveralRows(Case):
    """Rows one below the other, each led through a filter by the row ahead of it as it is."""

    def rows(self, many, length, chance):
        first = any_bytes(length, chance)
        return [[(byte + chance.randrange(-3, 4) * at) % 256 for byte in first] for at in range(many)]

    def test_led_through_any_filters_and_back(self):
        chance = random.Random(11)
        for turn in range(40):
            rows = self.rows(6, chance.randrange(30), chance)
            for step in STEPS:
                above = back_above = [0] * len(rows[0])
                for row in rows:
                    number = chance.randrange(5)
                    back = undone(number, filtered(number, row, above, step=step), back_above, step=step)
                    self.same(back, row)
                    above, back_above = row, back

    def test_no_choice_of_filters_costs_less(self):
        chance = random.Random(12)
        for turn in range(6):
            rows = self.rows(4, 6, chance)
            pairs = list(zip(rows, [[0] * 6] + rows[:-1]))
            chosen_sum = sum(cost(chosen(row, above)[1]) for row, above in pairs)
            sums = [
                sum(cost(filtered(number, row, above)) for number, (row, above) in zip(numbers, pairs))
                for numbers in itertools.product(range(5), repeat=4)
            ]
            self.same(chosen_sum, min(sums))

    def test_a_row_chosen_earlier_does_not_change_a_later_choice(self):
        row, above = [10, 20, 30], [3, 2, 1]
        first = copy.deepcopy(chosen(row, above))
        chosen([0, 0, 0], [1, 2, 3])
        is_chosen(row, above, (0, [0, 0, 0]))
        self.same(chosen(row, above), first)
