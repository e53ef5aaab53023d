"""The least and the greatest prices, and the gains at the least."""

import unittest
from itertools import product

from tests.helper import (
    BEST, BILLION, GAINS, GREATEST, PRICES,
    ask, base, begin, of_table, tables, told_competitive, told_gains, told_greatest, told_prices, worth,
)


class Prices(unittest.TestCase):
    def test_nobody_else_wants_it(self):
        self.assertEqual(of_table([3], [[7]], PRICES), [3])
        self.assertEqual(of_table([3], [[1]], PRICES), [3])

    def test_what_the_next_would_pay(self):
        self.assertEqual(of_table([0], [[7], [5], [2]], PRICES), [5])
        self.assertEqual(of_table([4], [[7], [5], [2]], PRICES), [5])
        self.assertEqual(of_table([6], [[7], [5], [2]], PRICES), [6])

    def test_several_firms(self):
        self.assertEqual(of_table([0, 0], [[10, 9], [8, 1]], PRICES), [1, 0])
        self.assertEqual(of_table([0, 0], [[10, 6], [9, 6], [4, 5]], PRICES), [8, 5])

    def test_more_firms_than_players_cost_the_base_where_nobody_is_kept_out(self):
        self.assertEqual(of_table([1, 2, 3], [[9, 2, 1]], PRICES), [1, 2, 3])

    def test_ends_of_the_range(self):
        self.assertEqual(of_table([0], [[BILLION], [BILLION]], PRICES), [BILLION])
        self.assertEqual(of_table([BILLION], [[BILLION], [BILLION]], PRICES), [BILLION])
        self.assertEqual(of_table([BILLION] * 6, [[0] * 6] * 5, PRICES), [BILLION] * 6)
        self.assertEqual(of_table([0] * 6, [[BILLION] * 6] * 5, PRICES), [0] * 6)
        self.assertEqual(of_table([0] * 4, [[BILLION] * 4] * 5, PRICES), [BILLION] * 4)

    def test_by_the_words(self):
        for seed, top in enumerate((1, 3, 10, BILLION)):
            for bases, worths in tables(seed, top, top // 2 + 1):
                with self.subTest(bases=bases, worths=worths):
                    self.assertEqual(of_table(bases, worths, PRICES), told_prices(bases, worths))


class Greatest(unittest.TestCase):
    def test_one_player(self):
        self.assertEqual(of_table([3], [[7]], GREATEST), [7])
        self.assertEqual(of_table([3], [[1]], GREATEST), [3])
        self.assertEqual(of_table([0, 0], [[7, 5]], GREATEST), [2, 0])

    def test_several_players(self):
        self.assertEqual(of_table([0], [[7], [5], [2]], GREATEST), [7])
        self.assertEqual(of_table([0, 0], [[10, 9], [8, 1]], GREATEST), [8, 7])

    def test_ends_of_the_range(self):
        self.assertEqual(of_table([0], [[BILLION]], GREATEST), [BILLION])
        self.assertEqual(of_table([BILLION], [[BILLION]], GREATEST), [BILLION])
        self.assertEqual(of_table([BILLION] * 6, [[0] * 6] * 5, GREATEST), [BILLION] * 6)
        self.assertEqual(of_table([0] * 6, [[BILLION] * 6] * 5, GREATEST), [0] * 6)
        self.assertEqual(of_table([0] * 5, [[BILLION] * 5] * 5, GREATEST), [BILLION] * 5)

    def test_by_the_words(self):
        for seed, top in enumerate((1, 3, 10, BILLION)):
            for bases, worths in tables(seed + 10, top, top // 2 + 1):
                with self.subTest(bases=bases, worths=worths):
                    self.assertEqual(of_table(bases, worths, GREATEST), told_greatest(bases, worths))


class Competitive(unittest.TestCase):
    """Both lists are competitive, and no competitive price is below the one or above the other."""

    def test_between_the_two_lie_all_competitive_prices(self):
        for seed in range(8):
            for bases, worths in tables(seed + 20, 4, 3, 3, 3):
                least = of_table(bases, worths, PRICES)
                greatest = of_table(bases, worths, GREATEST)
                every = product(range(7), repeat=len(bases))
                found = [prices for prices in every if told_competitive(bases, worths, prices)]
                with self.subTest(bases=bases, worths=worths):
                    self.assertIn(tuple(least), found)
                    self.assertIn(tuple(greatest), found)
                    self.assertEqual(least, [min(some) for some in zip(*found)])
                    self.assertEqual(greatest, [max(some) for some in zip(*found)])

    def test_both_are_competitive_in_greater_tables(self):
        for bases, worths in tables(30, 12, 7):
            with self.subTest(bases=bases, worths=worths):
                self.assertTrue(told_competitive(bases, worths, of_table(bases, worths, PRICES)))
                self.assertTrue(told_competitive(bases, worths, of_table(bases, worths, GREATEST)))


class Gains(unittest.TestCase):
    def test_ordinary(self):
        self.assertEqual(of_table([3], [[7]], GAINS), [4])
        self.assertEqual(of_table([0], [[5], [7], [2]], GAINS), [0, 2, 0])
        self.assertEqual(of_table([0, 0], [[10, 9], [8, 1]], GAINS), [9, 7])

    def test_by_none_it_is_0(self):
        self.assertEqual(of_table([8], [[7]], GAINS), [0])
        self.assertEqual(of_table([8, 9], [[7, 2], [8, 1], [1, 1]], GAINS), [0, 0, 0])

    def test_a_number_for_each_player_not_each_firm(self):
        self.assertEqual(of_table([1, 2, 3], [[9, 9, 9]], GAINS), [8])
        self.assertEqual(of_table([1], [[9], [3], [4]], GAINS), [5, 0, 0])

    def test_ends_of_the_range(self):
        self.assertEqual(of_table([0] * 6, [[BILLION] * 6] * 5, GAINS), [BILLION] * 5)
        self.assertEqual(of_table([0] * 4, [[BILLION] * 4] * 5, GAINS), [0] * 5)
        self.assertEqual(of_table([BILLION] * 6, [[0] * 6] * 5, GAINS), [0] * 5)

    def test_by_the_words(self):
        for seed, top in enumerate((1, 3, 10, BILLION)):
            for bases, worths in tables(seed + 40, top, top // 2 + 1):
                with self.subTest(bases=bases, worths=worths):
                    self.assertEqual(of_table(bases, worths, GAINS), told_gains(bases, worths))


class Follows(unittest.TestCase):
    def test_each_change_is_seen(self):
        told = ask(
            begin(2, 1), worth(1, 1, 9), PRICES, GREATEST, GAINS,
            worth(2, 1, 6), PRICES, GREATEST, GAINS,
            base(1, 8), PRICES, GREATEST, GAINS, BEST,
        )
        self.assertEqual(told[2:5], [[0], [9], [9, 0]])
        self.assertEqual(told[6:9], [[6], [9], [3, 0]])
        self.assertEqual(told[10:], [[8], [9], [1, 0], [1, 1, 0]])


if __name__ == "__main__":
    unittest.main()
