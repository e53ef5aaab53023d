"""What one player changes: the total without them, their burden on the others, and what a lie would bring them."""

import random
import unittest

from tests.helper import (
    BEST, BILLION, CLOCK, EQUALS, FAR, GAINS, GREATEST, NO_MONEY, NO_PLAYER_OF_2, PRICES, TOTAL, AskedOf2And3,
    ask, begin, burden, laid, last, lie, look, of_table, tables, told_burden, told_lie, told_without, without,
)


class Without(AskedOf2And3):
    def test_ordinary_and_nothing_changes(self):
        self.asked(without(1), [57])
        self.asked(without(2), [27])

    def test_one_player(self):
        self.assertEqual(last(without(1)), [0])
        self.assertEqual(of_table([3], [[7]], without(1)), [0])
        self.assertEqual(of_table([3], [[1]], without(1)), [0])
        self.assertEqual(of_table([0] * 6, [[BILLION] * 6], without(1)), [0])

    def test_a_player_who_gets_nothing(self):
        self.assertEqual(of_table([0], [[7], [5]], without(2)), [7])
        self.assertEqual(of_table([8, 2], [[7, 1], [9, 5]], without(1)), [3])

    def test_another_gets_their_firm(self):
        self.assertEqual(of_table([0], [[7], [5], [2]], without(1)), [5])
        self.assertEqual(of_table([0, 0], [[10, 9], [8, 1]], without(1)), [8])
        self.assertEqual(of_table([0, 0], [[10, 9], [8, 1]], without(2)), [10])

    def test_more_players_than_firms(self):
        worths = [[8, 6], [7, 1], [2, 5], [0, 4], [6, 6]]
        told = ask(*laid([1, 0], worths), *[without(p) for p in range(1, 6)])[-5:]
        self.assertEqual(told, [[12], [13], [13], [13], [12]])

    def test_ends_of_the_range(self):
        self.assertEqual(of_table([0] * 6, [[BILLION] * 6] * 5, without(3)), [4 * BILLION])
        self.assertEqual(of_table([BILLION] * 6, [[0] * 6] * 5, without(3)), [0])
        self.assertEqual(of_table([BILLION] * 6, [[BILLION] * 6] * 5, without(5)), [0])

    def test_no_such_player(self):
        for p in NO_PLAYER_OF_2:
            self.asked(without(p), [-1])
        self.assertEqual(ask(begin(5, 6), without(5), without(6))[1:], [[0], [-1]])
        self.assertEqual(ask(begin(1, 6), without(1), without(2))[1:], [[0], [-1]])

    def test_by_the_words(self):
        for seed, top in enumerate((1, 3, 10, BILLION)):
            for bases, worths in tables(seed + 140, top, top):
                players = range(1, len(worths) + 1)
                told = ask(*laid(bases, worths), *[without(p) for p in players])[-len(worths):]
                with self.subTest(bases=bases, worths=worths):
                    self.assertEqual(told, [[told_without(bases, worths, p)] for p in players])


class Burden(AskedOf2And3):
    def test_ordinary_and_nothing_changes(self):
        self.asked(burden(1), [0])
        self.asked(burden(2), [9])

    def test_one_player(self):
        self.assertEqual(last(burden(1)), [0])
        self.assertEqual(of_table([3], [[7]], burden(1)), [0])
        self.assertEqual(of_table([8], [[7]], burden(1)), [0])
        self.assertEqual(of_table([0] * 6, [[BILLION] * 6], burden(1)), [0])

    def test_a_player_who_gets_nothing(self):
        self.assertEqual(of_table([0], [[7], [5]], burden(2)), [0])
        self.assertEqual(of_table([8, 2], [[7, 1], [9, 5]], burden(1)), [0])

    def test_the_others_would_have_it(self):
        self.assertEqual(of_table([0], [[7], [5], [2]], burden(1)), [5])
        self.assertEqual(of_table([4], [[7], [5], [2]], burden(1)), [1])
        self.assertEqual(of_table([6], [[7], [5], [2]], burden(1)), [0])
        self.assertEqual(of_table([0, 0], [[10, 9], [8, 1]], burden(1)), [0])
        self.assertEqual(of_table([0, 0], [[10, 9], [8, 1]], burden(2)), [1])

    def test_at_ties_the_best_assignment_counts(self):
        told = ask(*laid([0], [[5], [5]]), burden(1), burden(2))[-2:]
        self.assertEqual(told, [[5], [0]])

    def test_more_players_than_firms(self):
        worths = [[8, 6], [7, 1], [2, 5], [0, 4], [6, 6]]
        told = ask(*laid([1, 0], worths), *[burden(p) for p in range(1, 6)])[-5:]
        self.assertEqual(told, [[6], [0], [0], [0], [5]])

    def test_ends_of_the_range(self):
        self.assertEqual(of_table([0], [[BILLION], [BILLION]], burden(1)), [BILLION])
        self.assertEqual(of_table([0] * 4, [[BILLION] * 4] * 5, burden(4)), [BILLION])
        self.assertEqual(of_table([0] * 4, [[BILLION] * 4] * 5, burden(5)), [0])
        self.assertEqual(of_table([BILLION] * 6, [[0] * 6] * 5, burden(1)), [0])

    def test_no_such_player(self):
        for p in NO_PLAYER_OF_2:
            self.asked(burden(p), [-1])
        self.assertEqual(ask(begin(5, 6), burden(5), burden(6))[1:], [[0], [-1]])
        self.assertEqual(ask(begin(1, 6), burden(1), burden(2))[1:], [[0], [-1]])

    def test_by_the_words(self):
        for seed, top in enumerate((1, 3, 10, BILLION)):
            for bases, worths in tables(seed + 150, top, top // 2):
                players = range(1, len(worths) + 1)
                told = ask(*laid(bases, worths), *[burden(p) for p in players])[-len(worths):]
                with self.subTest(bases=bases, worths=worths):
                    self.assertEqual(told, [[told_burden(bases, worths, p)] for p in players])

    def test_is_what_their_firm_costs_above_its_base(self):
        for seed, top in enumerate((1, 3, 10, 100, BILLION)):
            for bases, worths in tables(seed + 160, top, top // 2):
                burdens = [burden(p) for p in range(1, len(worths) + 1)]
                prices, best, *told = ask(*laid(bases, worths), PRICES, BEST, *burdens)[-2 - len(worths):]
                above = [prices[i - 1] - bases[i - 1] if i else 0 for i in best[1:]]
                with self.subTest(bases=bases, worths=worths):
                    self.assertEqual(told, [[v] for v in above])


class Lie(AskedOf2And3):
    def test_the_truth(self):
        self.asked(lie(1, [10, 20, 30]), [18, 18])
        self.asked(lie(2, [40, 50, 60]), [48, 48])

    def test_a_lie_that_changes_nothing_for_them(self):
        self.asked(lie(2, [0, 0, 60]), [48, 48])
        self.asked(lie(2, [0, 0, BILLION]), [48, 48])

    def test_another_firm(self):
        self.asked(lie(1, [50, 0, 0]), [9, 18])
        self.asked(lie(2, [50, 0, 0]), [39, 48])

    def test_no_firm(self):
        self.asked(lie(1, [0, 0, 0]), [0, 18])
        self.asked(lie(2, [0, 1, 2]), [0, 48])

    def test_first_number_below_0(self):
        told = ask(*laid([0], [[7], [5]]), lie(2, [9]), lie(2, [7]), lie(2, [8]), lie(2, [BILLION]))[-4:]
        self.assertEqual(told, [[-2, 0], [0, 0], [-2, 0], [-2, 0]])
        self.assertEqual(of_table([9], [[7]], lie(1, [9])), [-2, 0])
        self.assertEqual(of_table([8], [[7]], lie(1, [9])), [-1, 0])
        self.assertEqual(of_table([BILLION], [[0]], lie(1, [BILLION])), [-BILLION, 0])

    def test_a_number_like_a_refusal_has_a_second_behind_it(self):
        for v in (1, 2, 3):
            self.assertEqual(of_table([v], [[0]], lie(1, [v])), [-v, 0])

    def test_the_price_is_that_of_the_table_with_the_lie(self):
        self.assertEqual(of_table([0, 0], [[10, 9], [8, 1]], lie(1, [9, 2])), [3, 9])
        self.assertEqual(of_table([0, 0], [[10, 9], [8, 7], [5, 0]], lie(1, [4, 20])), [5, 5])

    def test_at_ties_the_best_assignment_counts(self):
        told = ask(*laid([0, 0], [[5, 3], [5, 3]]), lie(1, [2, 2]), lie(2, [2, 2]), lie(1, [0, 0]), lie(2, [0, 0]))
        self.assertEqual(told[-4:], [[3, 3], [3, 3], [3, 3], [3, 3]])
        told = ask(*laid([0], [[4], [5], [5]]), lie(1, [5]), lie(2, [4]), lie(3, [6]), lie(3, [5]))
        self.assertEqual(told[-4:], [[-1, 0], [0, 0], [0, 0], [0, 0]])

    def test_the_table_tells_the_truth_behind_it(self):
        asked = [look(1), look(2), TOTAL, BEST, PRICES, GREATEST, GAINS, CLOCK, EQUALS, lie(2, [1, 2, 3])]
        before = ask(*self.TABLE, *asked)[-10:]
        for call in (lie(1, [50, 0, 0]), lie(2, [0, 0, 0]), lie(2, [BILLION] * 3), lie(1, [-1, 0, 0]), lie(0, [0] * 3)):
            with self.subTest(call=call):
                self.assertEqual(ask(*self.TABLE, call, *asked)[-10:], before)

    def test_no_such_player(self):
        for p in NO_PLAYER_OF_2:
            self.asked(lie(p, [1, 2, 3]), [-1])

    def test_one_number_out_of_range(self):
        for v in NO_MONEY:
            self.asked(lie(1, [v, 2, 3]), [-2])
            self.asked(lie(1, [1, v, 3]), [-2])
            self.asked(lie(2, [1, 2, v]), [-2])

    def test_every_other_length(self):
        for size in range(21):
            if size != 3:
                self.asked(lie(1, [1] * size), [-2])
                self.asked(lie(2, [-1] * size), [-2])

    def test_no_such_player_is_nearer_to_0(self):
        for size in range(21):
            self.asked(lie(0, [1] * size), [-1])
            self.asked(lie(3, [FAR] * size), [-1])
        for v in NO_MONEY:
            self.asked(lie(-FAR, [1, 2, v]), [-1])

    def test_the_length_asked_is_of_firms_not_players(self):
        told = ask(begin(3, 2), lie(3, [0, 0]), lie(3, [0, 0, 0]), lie(4, [0, 0, 0]))
        self.assertEqual(told[1:], [[0, 0], [-2], [-1]])

    def test_ends_of_the_range(self):
        table = laid([0] * 6, [[BILLION] * 6] * 5)
        told = ask(*table, lie(5, [0] * 6), lie(5, [BILLION] * 6), lie(1, [0] * 5 + [BILLION]))[-3:]
        self.assertEqual(told, [[BILLION, BILLION]] * 3)
        table = laid([0] * 4, [[BILLION] * 4] * 5)
        self.assertEqual(ask(*table, lie(1, [0] * 4), lie(5, [0] * 4))[-2:], [[0, 0], [0, 0]])

    def test_by_the_words_and_never_better_than_the_truth(self):
        chance = random.Random(170)
        for seed, top in enumerate((1, 3, 10, BILLION)):
            for bases, worths in tables(seed + 170, top, top // 2, 4, 5):
                for p in range(1, len(worths) + 1):
                    told = [chance.randint(0, top) for i in bases]
                    answer = of_table(bases, worths, lie(p, told))
                    with self.subTest(bases=bases, worths=worths, p=p, told=told):
                        self.assertEqual(answer, told_lie(bases, worths, p, told))
                        self.assertLessEqual(answer[0], answer[1])

    def test_of_the_greatest_tables_by_the_words(self):
        chance = random.Random(180)
        for top in (2, 30):
            bases = [chance.randint(0, top // 2) for i in range(6)]
            worths = [[chance.randint(0, top) for i in range(6)] for p in range(5)]
            for p in (1, 3, 5):
                told = [chance.randint(0, top) for i in range(6)]
                with self.subTest(bases=bases, worths=worths, p=p, told=told):
                    self.assertEqual(of_table(bases, worths, lie(p, told)), told_lie(bases, worths, p, told))


if __name__ == "__main__":
    unittest.main()
