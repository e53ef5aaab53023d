"""The total, the best assignment, what a given one wins, and how many win the total."""

import unittest
from math import comb, factorial

from tests.helper import (
    BEST, BILLION, EQUALS, FAR, TOTAL, AskedOf2And3,
    ask, assignments, base, begin, given, laid, last, of_table, row, tables, told_best, told_equals, told_total,
    told_win, worth,
)


class Total(unittest.TestCase):
    def test_one_player_one_firm(self):
        self.assertEqual(of_table([0], [[7]], TOTAL), [7])
        self.assertEqual(of_table([3], [[7]], TOTAL), [4])
        self.assertEqual(of_table([7], [[7]], TOTAL), [0])
        self.assertEqual(of_table([8], [[7]], TOTAL), [0])

    def test_more_players_than_firms(self):
        self.assertEqual(of_table([0], [[3], [9], [5]], TOTAL), [9])
        self.assertEqual(of_table([1, 0], [[8, 6], [7, 1], [2, 5], [0, 4], [6, 6]], TOTAL), [13])

    def test_more_firms_than_players(self):
        self.assertEqual(of_table([0, 0, 0], [[3, 9, 5]], TOTAL), [9])
        self.assertEqual(of_table([0, 5, 0, 0, 0, 0], [[3, 9, 5, 1, 1, 1], [2, 9, 6, 0, 0, 0]], TOTAL), [10])

    def test_the_greatest_worth_of_each_is_not_always_best_to_give(self):
        self.assertEqual(of_table([0, 0], [[10, 9], [8, 1]], TOTAL), [17])

    def test_ends_of_the_range(self):
        self.assertEqual(of_table([0] * 6, [[BILLION] * 6] * 5, TOTAL), [5 * BILLION])
        self.assertEqual(of_table([BILLION] * 6, [[BILLION] * 6] * 5, TOTAL), [0])
        self.assertEqual(of_table([BILLION] * 6, [[0] * 6] * 5, TOTAL), [0])
        self.assertEqual(of_table([0] * 6, [[0] * 6] * 5, TOTAL), [0])

    def test_by_the_words(self):
        for top in (1, 3, 20, BILLION):
            for bases, worths in tables(top, top, top):
                with self.subTest(bases=bases, worths=worths):
                    self.assertEqual(of_table(bases, worths, TOTAL), [told_total(bases, worths)])


class Best(unittest.TestCase):
    def test_ordinary(self):
        self.assertEqual(of_table([0, 0], [[10, 9], [8, 1]], BEST), [17, 2, 1])
        self.assertEqual(of_table([2, 3, 1], [[5, 9, 4], [8, 9, 2]], BEST), [12, 2, 1])

    def test_a_firm_that_wins_just_0_is_given(self):
        self.assertEqual(of_table([7], [[7]], BEST), [0, 1])
        self.assertEqual(of_table([4, 7], [[3, 7]], BEST), [0, 2])
        self.assertEqual(of_table([0, 0], [[0, 0]] * 3, BEST), [0, 1, 2, 0])

    def test_a_firm_that_wins_below_0_is_not_given(self):
        self.assertEqual(of_table([8], [[7]], BEST), [0, 0])
        self.assertEqual(of_table([8, 0], [[7, 7], [7, 3]], BEST), [7, 2, 0])

    def test_at_ties_the_first_player_gets_the_lesser_firm(self):
        self.assertEqual(of_table([0, 0, 0], [[5, 5, 5]], BEST), [5, 1])
        self.assertEqual(of_table([0, 0, 0], [[4, 5, 5]], BEST), [5, 2])
        self.assertEqual(of_table([0, 0], [[5, 5], [5, 5]], BEST), [10, 1, 2])
        self.assertEqual(of_table([0, 0, 0], [[5, 5, 5]] * 3, BEST), [15, 1, 2, 3])

    def test_at_ties_a_firm_is_before_none(self):
        self.assertEqual(of_table([0], [[5], [5]], BEST), [5, 1, 0])
        self.assertEqual(of_table([0], [[4], [5], [5]], BEST), [5, 0, 1, 0])
        self.assertEqual(of_table([0, 0], [[0, 5], [0, 5], [0, 5]], BEST), [5, 1, 2, 0])

    def test_the_earlier_player_counts_before_the_later(self):
        self.assertEqual(of_table([0, 0], [[3, 3], [0, 0], [3, 3]], BEST), [6, 1, 0, 2])
        self.assertEqual(of_table([0, 0, 0], [[2, 1, 1], [2, 1, 1]], BEST), [3, 1, 2])

    def test_the_total_comes_before_the_order(self):
        self.assertEqual(of_table([0, 0], [[5, 5], [6, 5]], BEST), [11, 2, 1])

    def test_follows_what_is_told(self):
        told = ask(begin(2, 2), BEST, worth(2, 1, 4), BEST, base(1, 5), BEST, row(1, [0, 6]), BEST)
        self.assertEqual(told[1::2], [[0, 1, 2], [4, 2, 1], [0, 2, 0], [6, 2, 0]])

    def test_ends_of_the_range(self):
        self.assertEqual(of_table([0] * 6, [[BILLION] * 6] * 5, BEST), [5 * BILLION, 1, 2, 3, 4, 5])
        self.assertEqual(of_table([BILLION] * 6, [[BILLION] * 6] * 5, BEST), [0, 1, 2, 3, 4, 5])
        self.assertEqual(of_table([BILLION] * 6, [[0] * 6] * 5, BEST), [0, 0, 0, 0, 0, 0])

    def test_by_the_words(self):
        for seed, top in enumerate((1, 1, 1, 2, 2, 3, 20, BILLION)):
            for bases, worths in tables(seed, top, top):
                with self.subTest(bases=bases, worths=worths):
                    self.assertEqual(of_table(bases, worths, BEST), told_best(bases, worths))


class Given(unittest.TestCase):
    TABLE = laid([5, 6, 0], [[9, 1, 2], [3, 8, 4]])

    def told(self, firms):
        return last(*self.TABLE, given(firms))

    def test_ordinary(self):
        self.assertEqual(self.told([1, 2]), [6])
        self.assertEqual(self.told([1, 3]), [8])
        self.assertEqual(self.told([3, 0]), [2])
        self.assertEqual(self.told([0, 3]), [4])

    def test_nobody_gets_a_firm(self):
        self.assertEqual(self.told([0, 0]), [0])
        self.assertEqual(last(begin(5, 6), given([0] * 5)), [0])

    def test_below_0(self):
        self.assertEqual(self.told([2, 1]), [-7])
        self.assertEqual(self.told([2, 0]), [-5])
        self.assertEqual(of_table([BILLION] * 6, [[0] * 6] * 5, given([6, 5, 4, 3, 2])), [-5 * BILLION])

    def test_an_assignment_that_wins_as_much_as_a_refusal(self):
        for v in (1, 2, 3):
            self.assertEqual(of_table([v], [[0]], given([1])), [-v])

    def test_a_firm_given_twice(self):
        for firms in ([1, 1], [2, 2], [3, 3]):
            self.assertEqual(self.told(firms), [-3])
        self.assertEqual(last(begin(5, 6), given([6, 0, 1, 0, 6])), [-3])
        self.assertEqual(last(begin(3, 1), given([1, 0, 1])), [-3])

    def test_a_number_that_is_no_firm(self):
        for i in (-FAR, -BILLION, -3, -2, -1, 4, 5, BILLION, FAR):
            with self.subTest(i=i):
                self.assertEqual(self.told([i, 1]), [-3])
                self.assertEqual(self.told([1, i]), [-3])
                self.assertEqual(self.told([0, i]), [-3])

    def test_every_other_length(self):
        for size in range(21):
            if size != 2:
                with self.subTest(size=size):
                    self.assertEqual(self.told([0] * size), [-3])
                    self.assertEqual(self.told([1, 2, 3][:size] + [0] * (size - 3)), [-3])
                    self.assertEqual(self.told([FAR] * size), [-3])

    def test_the_length_asked_is_of_players_not_firms(self):
        self.assertEqual(self.told([1, 2, 3]), [-3])
        self.assertEqual(last(begin(3, 2), given([1, 2])), [-3])
        self.assertEqual(last(begin(3, 2), given([1, 2, 0])), [0])

    def test_each_list_by_the_words(self):
        bases = [3, 0, 5]
        worths = [[4, 1, 9], [2, 7, 0], [6, 6, 6]]
        right = {firms: told_win(bases, worths, firms) for firms in assignments(3, 3)}
        lists = [(a, b, c) for a in range(-1, 5) for b in range(-1, 5) for c in range(-1, 5)]
        for firms in lists:
            with self.subTest(firms=firms):
                self.assertEqual(of_table(bases, worths, given(firms)), [right.get(firms, -3)])

    def test_assignments_of_greater_tables_by_the_words(self):
        for bases, worths in tables(5, 50, 50):
            every = assignments(len(worths), len(bases))
            for firms in every[::max(1, len(every) // 7)]:
                with self.subTest(bases=bases, worths=worths, firms=firms):
                    self.assertEqual(of_table(bases, worths, given(firms)), [told_win(bases, worths, firms)])

    def test_the_best_assignment_wins_the_total(self):
        for bases, worths in tables(6, 30, 30):
            best = of_table(bases, worths, BEST)
            self.assertEqual(of_table(bases, worths, given(best[1:])), best[:1])


class Equals(AskedOf2And3):
    def test_ordinary_and_nothing_changes(self):
        self.asked(EQUALS, [2])

    def test_one_player_one_firm(self):
        self.assertEqual(last(EQUALS), [2])
        self.assertEqual(of_table([3], [[7]], EQUALS), [1])
        self.assertEqual(of_table([7], [[7]], EQUALS), [2])
        self.assertEqual(of_table([8], [[7]], EQUALS), [1])

    def test_ties(self):
        self.assertEqual(of_table([0, 0], [[5, 5]], EQUALS), [2])
        self.assertEqual(of_table([0], [[5], [5], [4]], EQUALS), [2])
        self.assertEqual(of_table([0, 0], [[2, 1], [2, 1]], EQUALS), [2])
        self.assertEqual(of_table([0, 0], [[5, 5], [6, 5]], EQUALS), [1])

    def test_a_firm_that_wins_just_0_may_be_given_or_not(self):
        self.assertEqual(of_table([0, 0], [[5, 0], [5, 0]], EQUALS), [4])
        self.assertEqual(of_table([4, 7], [[3, 7]], EQUALS), [2])
        self.assertEqual(of_table([0, 9], [[5, 0], [0, 0]], EQUALS), [1])

    def test_none_at_all_is_among_them(self):
        self.assertEqual(of_table([8, 9], [[7, 2], [8, 1], [1, 1]], EQUALS), [2])
        self.assertEqual(of_table([9, 9], [[7, 2], [8, 1], [1, 1]], EQUALS), [1])
        self.assertEqual(last(begin(2, 2), EQUALS), [7])

    def test_all_worths_alike(self):
        for n in range(1, 6):
            for m in range(1, 7):
                few = min(n, m)
                every = [comb(n, k) * comb(m, k) * factorial(k) for k in range(few + 1)]
                table = laid([5] * m, [[5] * m] * n)
                above = [row(p, [6] * m) for p in range(1, n + 1)]
                below = [row(p, [4] * m) for p in range(1, n + 1)]
                told = ask(*table, EQUALS, *above, EQUALS, *below, EQUALS)
                with self.subTest(n=n, m=m):
                    self.assertEqual(told[len(table)::n + 1], [[sum(every)], [every[few]], [1]])

    def test_ends_of_the_range(self):
        self.assertEqual(of_table([0] * 6, [[BILLION] * 6] * 5, EQUALS), [720])
        self.assertEqual(of_table([BILLION] * 6, [[BILLION] * 6] * 5, EQUALS), [4051])
        self.assertEqual(of_table([0] * 6, [[0] * 6] * 5, EQUALS), [4051])
        self.assertEqual(of_table([BILLION] * 6, [[0] * 6] * 5, EQUALS), [1])

    def test_by_the_words(self):
        for seed, top in enumerate((1, 1, 2, 3, 20, BILLION)):
            for bases, worths in tables(seed + 190, top, top):
                with self.subTest(bases=bases, worths=worths):
                    self.assertEqual(of_table(bases, worths, EQUALS), [told_equals(bases, worths)])


if __name__ == "__main__":
    unittest.main()
