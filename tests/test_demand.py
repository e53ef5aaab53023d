"""What is asked of some prices: whether they are competitive, what a player demands, what is wanted too much."""

import random
import unittest
from itertools import product

from tests.helper import (
    BILLION, FAR, GREATEST, NO_MONEY, NO_PLAYER_OF_2, PRICES, AskedOf2And3,
    ask, begin, competitive, demand, laid, last, of_table, over, tables, told_competitive, told_demand, told_over,
)


def by_hundreds(table, calls):
    """The answers to these calls of this table, on lines of at most a hundred calls."""
    room = 100 - len(table)
    found = []
    for start in range(0, len(calls), room):
        found += ask(*table, *calls[start:start + room])[len(table):]
    return found


def some_prices(seed, bases, worths):
    """Prices of all sorts, many of them just competitive or just not."""
    chance = random.Random(seed)
    least, greatest = ask(*laid(bases, worths), PRICES, GREATEST)[-2:]
    found = [least, greatest, bases]
    for prices in list(found):
        for i in range(len(bases)):
            for step in (-1, 1):
                found.append(prices[:i] + [prices[i] + step] + prices[i + 1:])
    found.append([chance.randint(low, high) for low, high in zip(least, greatest)])
    found.append([chance.choice(worths)[i] for i in range(len(bases))])
    return [prices for prices in found if all(0 <= v <= BILLION for v in prices)]


class Competitive(AskedOf2And3):
    def each(self, bases, worths, answers):
        for prices, answer in answers:
            with self.subTest(prices=prices):
                self.assertEqual(of_table(bases, worths, competitive(prices)), [answer])

    def test_one_player_one_firm(self):
        self.each([3], [[7]], [([0], 0), ([2], 0), ([3], 1), ([5], 1), ([7], 1), ([8], 0), ([BILLION], 0)])

    def test_prices_below_a_base(self):
        self.each([3], [[1]], [([0], 0), ([1], 0), ([2], 0), ([3], 1)])
        self.each([3, 3], [[9, 1]], [([3, 3], 1), ([3, 2], 0), ([2, 3], 0), ([4, 2], 0), ([9, 3], 1)])
        self.each([5, 0], [[0, 0], [0, 0]], [([5, 0], 1), ([4, 0], 0)])

    def test_a_firm_that_nobody_gets_costs_just_its_base(self):
        self.each([3], [[1]], [([3], 1), ([4], 0)])
        self.each([0, 0], [[9, 0]], [([0, 0], 1), ([0, 1], 0), ([5, 0], 1), ([5, 1], 0)])
        self.each([0, 4], [[9, 5]], [([0, 4], 1), ([0, 5], 0), ([8, 4], 1), ([9, 4], 0), ([9, 5], 0)])

    def test_a_firm_that_costs_just_its_worth_is_as_good_as_none(self):
        self.each([0], [[4]], [([4], 1), ([5], 0)])
        self.each([0], [[4], [4]], [([4], 1), ([3], 0), ([5], 0)])
        self.each([0, 0], [[4, 6], [4, 0]], [([4, 6], 1), ([4, 7], 0), ([5, 6], 0)])

    def test_nobody_is_kept_from_what_they_would_rather_have(self):
        self.each([0], [[7], [5]], [([4], 0), ([5], 1), ([6], 1), ([7], 1), ([8], 0)])
        self.each([0, 0], [[10, 9], [8, 1]], [
            ([0, 0], 0), ([1, 0], 1), ([1, 1], 0), ([2, 0], 1), ([8, 0], 0), ([8, 7], 1), ([8, 6], 1), ([9, 7], 0),
        ])

    def test_each_has_a_firm_that_they_demand_but_two_the_same(self):
        self.each([0, 0], [[5, 0], [5, 0]], [([4, 0], 0), ([5, 0], 1)])
        self.each([0, 0, 0], [[5, 5, 0]] * 3, [([4, 4, 0], 0), ([5, 5, 0], 1), ([5, 4, 0], 0)])

    def test_ends_of_the_range(self):
        self.each([BILLION] * 6, [[BILLION] * 6] * 5, [([BILLION] * 6, 1), ([0] * 6, 0)])
        self.each([0] * 6, [[BILLION] * 6] * 5, [([0] * 6, 1), ([1] * 6, 0), ([BILLION] * 6, 0)])
        self.each([0] * 5, [[BILLION] * 5] * 5, [([0] * 5, 1), ([1] * 5, 1), ([BILLION] * 5, 1)])
        self.each([0] * 6, [[0] * 6] * 5, [([0] * 6, 1), ([0] * 5 + [1], 0), ([0] * 5 + [BILLION], 0)])

    def test_ordinary_and_nothing_changes(self):
        self.asked(competitive([1, 2, 3]), [0])
        self.asked(competitive([1, 2, 12]), [1])
        self.asked(competitive([1, 2, 11]), [0])
        self.asked(competitive([1, 3, 13]), [1])
        self.asked(competitive([2, 2, 12]), [0])

    def test_one_number_out_of_range(self):
        for v in NO_MONEY:
            self.asked(competitive([v, 2, 12]), [-2])
            self.asked(competitive([1, v, 12]), [-2])
            self.asked(competitive([1, 2, v]), [-2])

    def test_every_other_length(self):
        for size in range(21):
            if size != 3:
                self.asked(competitive(([1, 2, 12] + [0] * 17)[:size]), [-2])
                self.asked(competitive([BILLION] * size), [-2])
                self.asked(competitive([-FAR] * size), [-2])

    def test_the_least_and_the_greatest_prices_are(self):
        for seed, top in enumerate((1, 4, 30, BILLION)):
            for bases, worths in tables(seed + 50, top, top // 2 + 1):
                least, greatest = ask(*laid(bases, worths), PRICES, GREATEST)[-2:]
                with self.subTest(bases=bases, worths=worths):
                    told = ask(*laid(bases, worths), competitive(least), competitive(greatest))
                    self.assertEqual(told[-2:], [[1], [1]])

    def test_by_the_words(self):
        found = []
        for seed, top in enumerate((2, 12)):
            for bases, worths in tables(seed + 60, top, top // 2):
                many = some_prices(seed, bases, worths)
                told = by_hundreds(laid(bases, worths), [competitive(prices) for prices in many])
                right = [[int(told_competitive(bases, worths, prices))] for prices in many]
                found += right
                with self.subTest(bases=bases, worths=worths):
                    self.assertEqual(told, right)
        self.assertGreater(found.count([0]), 100)
        self.assertGreater(found.count([1]), 100)

    def test_all_prices_by_the_words(self):
        for seed in range(3):
            for bases, worths in tables(seed + 70, 3, 2, 3, 3):
                many = list(product(range(5), repeat=len(bases)))
                told = by_hundreds(laid(bases, worths), [competitive(prices) for prices in many])
                right = [[int(told_competitive(bases, worths, prices))] for prices in many]
                with self.subTest(bases=bases, worths=worths):
                    self.assertEqual(told, right)


class Demand(AskedOf2And3):
    def test_ordinary_and_nothing_changes(self):
        self.asked(demand(1, [1, 2, 3]), [27, 1, 3])
        self.asked(demand(2, [1, 2, 3]), [57, 1, 3])
        self.asked(demand(1, [5, 0, 15]), [20, 1, 2])
        self.asked(demand(2, [0, 25, 30]), [40, 1, 1])

    def test_several_in_order(self):
        self.asked(demand(1, [0, 10, 20]), [10, 3, 1, 2, 3])
        self.asked(demand(1, [0, 11, 20]), [10, 2, 1, 3])
        self.asked(demand(2, [40, 20, 30]), [30, 2, 2, 3])

    def test_a_greatest_gain_of_0_with_firms_that_cost_just_their_worth(self):
        self.asked(demand(1, [10, 20, 30]), [0, 3, 1, 2, 3])
        self.asked(demand(1, [11, 20, 31]), [0, 1, 2])
        self.asked(demand(2, [40, 51, 60]), [0, 2, 1, 3])

    def test_a_greatest_gain_of_0_with_none(self):
        self.asked(demand(1, [11, 21, 31]), [0, 0])
        self.asked(demand(2, [BILLION] * 3), [0, 0])

    def test_the_base_is_not_asked_for(self):
        self.asked(demand(1, [0, 0, 0]), [30, 1, 3])

    def test_ends_of_the_range(self):
        table = laid([BILLION] * 6, [[0] * 6, [BILLION] * 6])
        told = ask(
            *table, demand(1, [0] * 6), demand(1, [BILLION] * 6), demand(2, [0] * 6), demand(2, [BILLION] * 6),
        )[len(table):]
        firms = [1, 2, 3, 4, 5, 6]
        self.assertEqual(told, [[0, 6] + firms, [0, 0], [BILLION, 6] + firms, [0, 6] + firms])

    def test_no_such_player(self):
        for p in NO_PLAYER_OF_2:
            self.asked(demand(p, [1, 2, 3]), [-1])

    def test_one_number_out_of_range(self):
        for v in NO_MONEY:
            self.asked(demand(1, [v, 2, 3]), [-2])
            self.asked(demand(1, [1, v, 3]), [-2])
            self.asked(demand(2, [1, 2, v]), [-2])

    def test_every_other_length(self):
        for size in range(21):
            if size != 3:
                self.asked(demand(1, [1] * size), [-2])
                self.asked(demand(2, [BILLION + 1] * size), [-2])

    def test_no_such_player_is_nearer_to_0(self):
        for size in range(21):
            self.asked(demand(0, [1] * size), [-1])
            self.asked(demand(3, [-1] * size), [-1])
        for v in NO_MONEY:
            self.asked(demand(-FAR, [1, 2, v]), [-1])

    def test_the_length_asked_is_of_firms_not_players(self):
        told = ask(begin(3, 2), demand(3, [0, 0]), demand(3, [0, 0, 0]), demand(4, [0, 0, 0]))
        self.assertEqual(told[1:], [[0, 2, 1, 2], [-2], [-1]])

    def test_by_the_words(self):
        for seed, top in enumerate((1, 3, 10, BILLION)):
            for bases, worths in tables(seed + 80, top, top):
                many = some_prices(seed, bases, worths)[-8:]
                for p, worths_of in enumerate(worths, 1):
                    told = by_hundreds(laid(bases, worths), [demand(p, prices) for prices in many])
                    with self.subTest(bases=bases, worths=worths, p=p):
                        self.assertEqual(told, [told_demand(worths_of, prices) for prices in many])


class Over(AskedOf2And3):
    def test_ordinary_and_nothing_changes(self):
        self.asked(over([1, 2, 3]), [1, 3])
        self.asked(over([1, 2, 11]), [1, 3])
        self.asked(over([0, 5, 30]), [1, 2])
        self.asked(over([0, 30, 40]), [1, 1])

    def test_none(self):
        self.asked(over([1, 2, 12]), [0])
        self.asked(over([BILLION] * 3), [0])
        self.assertEqual(of_table([0] * 6, [[7] * 6] * 5, over([0] * 6)), [0])
        self.assertEqual(of_table([0], [[7]], over([0])), [0])

    def test_a_list_is_of_all_that_is_demanded(self):
        self.assertEqual(of_table([0, 0], [[7, 7], [7, 7]], over([0, 0])), [0])
        self.assertEqual(of_table([0, 0], [[7, 7], [7, 7], [7, 7]], over([0, 0])), [2, 1, 2])
        self.assertEqual(of_table([0] * 4, [[7, 7, 7, 7]] * 5, over([0] * 4)), [4, 1, 2, 3, 4])
        self.assertEqual(of_table([0] * 6, [[0, 7, 7, 0, 7, 7]] * 5, over([0] * 6)), [4, 2, 3, 5, 6])

    def test_who_demands_different_firms_of_a_list(self):
        self.assertEqual(of_table([0] * 3, [[7, 7, 0], [0, 7, 7], [7, 0, 7]], over([0] * 3)), [0])
        worths = [[7, 7, 0], [0, 7, 7], [7, 0, 7], [7, 7, 7]]
        self.assertEqual(of_table([0] * 3, worths, over([0] * 3)), [3, 1, 2, 3])
        self.assertEqual(of_table([0] * 3, [[7, 0, 7], [7, 0, 0], [0, 0, 7]], over([0] * 3)), [2, 1, 3])
        worths = [[5, 0, 0, 5], [5, 5, 0, 0], [5, 0, 0, 0], [5, 5, 0, 5]]
        self.assertEqual(of_table([0] * 4, worths, over([0] * 4)), [3, 1, 2, 4])

    def test_the_shorter_list_is_first(self):
        worths = [[7, 7, 0], [7, 7, 0], [7, 7, 0], [0, 0, 5], [0, 0, 5]]
        self.assertEqual(of_table([0] * 3, worths, over([0] * 3)), [1, 3])
        self.assertEqual(of_table([0] * 3, worths[:4], over([0] * 3)), [2, 1, 2])

    def test_of_one_length_the_lesser_firm_is_first(self):
        worths = [[0, 0, 5], [0, 0, 5], [0, 5, 0], [0, 5, 0]]
        self.assertEqual(of_table([0] * 3, worths, over([0] * 3)), [1, 2])
        worths = [[0, 5, 5, 0], [5, 0, 0, 5], [0, 5, 5, 0], [5, 0, 0, 5], [0, 5, 5, 0]]
        self.assertEqual(of_table([0] * 4, worths, over([0] * 4)), [2, 2, 3])

    def test_of_one_length_with_a_firm_in_both(self):
        worths = [[5, 0, 0, 5], [5, 0, 0, 0], [0, 0, 0, 5], [5, 5, 0, 0], [0, 5, 0, 0]]
        self.assertEqual(of_table([0] * 4, worths, over([0] * 4)), [2, 1, 2])
        worths = [[0, 5, 0, 5], [0, 5, 0, 0], [0, 0, 0, 5], [0, 5, 5, 0], [0, 0, 5, 0]]
        self.assertEqual(of_table([0] * 4, worths, over([0] * 4)), [2, 2, 3])
        worths = [[0, 5, 5, 0], [0, 5, 0, 0], [0, 0, 5, 0], [5, 0, 5, 0], [5, 0, 0, 0]]
        self.assertEqual(of_table([0] * 4, worths, over([0] * 4)), [2, 1, 3])

    def test_who_gains_0_wants_into_none(self):
        self.assertEqual(of_table([0], [[7], [5]], over([4])), [1, 1])
        self.assertEqual(of_table([0], [[7], [5]], over([5])), [0])
        self.assertEqual(of_table([0], [[7], [7]], over([7])), [0])
        self.assertEqual(of_table([0], [[7], [7], [7]], over([8])), [0])
        self.assertEqual(last(begin(5, 1), over([0])), [0])

    def test_the_prices_asked_count_not_the_clock_nor_the_bases(self):
        self.assertEqual(of_table([9], [[7], [5]], over([0])), [1, 1])
        self.assertEqual(of_table([0], [[7], [5]], over([9])), [0])

    def test_ends_of_the_range(self):
        worths = [[BILLION] * 4 + [0, 0]] * 5
        self.assertEqual(of_table([BILLION] * 6, worths, over([0] * 6)), [4, 1, 2, 3, 4])
        self.assertEqual(of_table([0] * 6, worths, over([BILLION - 1] * 6)), [4, 1, 2, 3, 4])
        self.assertEqual(of_table([0] * 6, worths, over([BILLION] * 6)), [0])

    def test_one_number_out_of_range(self):
        for v in NO_MONEY:
            self.asked(over([v, 2, 3]), [-2])
            self.asked(over([1, v, 3]), [-2])
            self.asked(over([1, 2, v]), [-2])

    def test_every_other_length(self):
        for size in range(21):
            if size != 3:
                self.asked(over([1] * size), [-2])
                self.asked(over([FAR] * size), [-2])

    def test_by_the_words(self):
        for seed, top in enumerate((1, 1, 1, 1, 2, 2, 3, 10, BILLION)):
            for bases, worths in tables(seed + 90, top, top):
                many = [[0] * len(bases)] + some_prices(seed, bases, worths)[-8:]
                told = by_hundreds(laid(bases, worths), [over(prices) for prices in many])
                with self.subTest(bases=bases, worths=worths):
                    self.assertEqual(told, [told_over(worths, prices) for prices in many])


if __name__ == "__main__":
    unittest.main()
