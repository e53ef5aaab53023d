"""The calls that change the table, and look."""

import unittest

from tests.helper import (
    BEST, BILLION, FAR, GREATEST, NO_MONEY, NO_PLAYER_OF_2, PRICES,
    ask, base, begin, kept, last, look, row, worth,
)

NO_FIRM_OF_3 = (-FAR, -BILLION, -3, -2, -1, 0, 4, 5, FAR)

TABLE = [begin(2, 3), base(1, 1), base(2, 2), base(3, 3), row(1, [10, 20, 30]), row(2, [40, 50, 60])]
WORTHS = [[10, 20, 30], [40, 50, 60]]
BASES = [1, 2, 3]


class Changes(unittest.TestCase):
    def refused(self, call, answer):
        with self.subTest(call=call):
            self.assertEqual(last(*TABLE, call), [answer])
            self.assertEqual(kept(TABLE + [call], 2, 3), (WORTHS, BASES))

    def changed(self, call, worths, bases):
        with self.subTest(call=call):
            self.assertEqual(last(*TABLE, call), [0])
            self.assertEqual(kept(TABLE + [call], 2, 3), (worths, bases))


class Begin(Changes):
    def test_every_size(self):
        for n in range(1, 6):
            for m in range(1, 7):
                with self.subTest(n=n, m=m):
                    self.assertEqual(last(*TABLE, begin(n, m)), [0])
                    self.assertEqual(kept(TABLE + [begin(n, m)], n, m), ([[0] * m] * n, [0] * m))
                    told = ask(begin(n, m), look(n), look(n + 1), base(m, 0), base(m + 1, 0))
                    self.assertEqual(told, [[0], [0] * m, [-1], [0], [-1]])

    def test_sizes_out_of_range(self):
        for n in (-FAR, -1, 0, 6, 7, FAR):
            for m in (-FAR, -1, 0, 1, 6, 7, FAR):
                self.refused(begin(n, m), -2)
        for m in (-FAR, -1, 0, 7, 8, FAR):
            for n in (1, 5):
                self.refused(begin(n, m), -2)

    def test_the_same_size_again_is_a_new_table(self):
        self.changed(begin(2, 3), [[0] * 3] * 2, [0] * 3)

    def test_rows_of_a_new_table_are_apart(self):
        self.assertEqual(kept([begin(3, 2), worth(2, 1, 7)], 3, 2), ([[0, 0], [7, 0], [0, 0]], [0, 0]))

    def test_prices_of_a_new_table(self):
        self.assertEqual(ask(*TABLE, begin(1, 2), PRICES, GREATEST)[-2:], [[0, 0], [0, 0]])


class Base(Changes):
    def test_each_firm(self):
        self.changed(base(1, 77), WORTHS, [77, 2, 3])
        self.changed(base(2, 77), WORTHS, [1, 77, 3])
        self.changed(base(3, 77), WORTHS, [1, 2, 77])

    def test_ends_of_the_range(self):
        self.changed(base(2, 0), WORTHS, [1, 0, 3])
        self.changed(base(2, 1), WORTHS, [1, 1, 3])
        self.changed(base(2, BILLION), WORTHS, [1, BILLION, 3])
        self.changed(base(2, BILLION - 1), WORTHS, [1, BILLION - 1, 3])

    def test_no_such_firm(self):
        for i in NO_FIRM_OF_3:
            self.refused(base(i, 5), -1)

    def test_out_of_range(self):
        for v in NO_MONEY:
            self.refused(base(3, v), -2)

    def test_no_such_firm_is_nearer_to_0(self):
        for i in NO_FIRM_OF_3:
            for v in NO_MONEY:
                self.refused(base(i, v), -1)


class Worth(Changes):
    def test_each_player_and_firm(self):
        for p in (1, 2):
            for i in (1, 2, 3):
                worths = [list(worths_of) for worths_of in WORTHS]
                worths[p - 1][i - 1] = 77
                self.changed(worth(p, i, 77), worths, BASES)

    def test_ends_of_the_range(self):
        for v in (0, 1, BILLION - 1, BILLION):
            self.changed(worth(2, 1, v), [[10, 20, 30], [v, 50, 60]], BASES)

    def test_no_such_player(self):
        for p in NO_PLAYER_OF_2:
            self.refused(worth(p, 1, 5), -1)

    def test_no_such_firm(self):
        for i in NO_FIRM_OF_3:
            self.refused(worth(1, i, 5), -1)

    def test_neither_such_player_nor_firm(self):
        self.refused(worth(0, 0, 5), -1)
        self.refused(worth(3, 4, 5), -1)

    def test_out_of_range(self):
        for v in NO_MONEY:
            self.refused(worth(2, 3, v), -2)

    def test_no_such_player_or_firm_is_nearer_to_0(self):
        for v in NO_MONEY:
            self.refused(worth(0, 1, v), -1)
            self.refused(worth(3, 1, v), -1)
            self.refused(worth(1, 0, v), -1)
            self.refused(worth(1, 4, v), -1)
            self.refused(worth(-FAR, FAR, v), -1)

    def test_players_and_firms_are_not_mixed_up(self):
        self.changed(worth(2, 3, 5), [[10, 20, 30], [40, 50, 5]], BASES)
        self.refused(worth(3, 2, 5), -1)


class Row(Changes):
    def test_each_player(self):
        self.changed(row(1, [7, 8, 9]), [[7, 8, 9], [40, 50, 60]], BASES)
        self.changed(row(2, [7, 8, 9]), [[10, 20, 30], [7, 8, 9]], BASES)

    def test_ends_of_the_range(self):
        self.changed(row(1, [0, BILLION, 1]), [[0, BILLION, 1], [40, 50, 60]], BASES)
        self.changed(row(1, [0, 0, 0]), [[0, 0, 0], [40, 50, 60]], BASES)
        self.changed(row(2, [BILLION] * 3), [[10, 20, 30], [BILLION] * 3], BASES)

    def test_no_such_player(self):
        for p in NO_PLAYER_OF_2:
            self.refused(row(p, [7, 8, 9]), -1)

    def test_one_number_out_of_range(self):
        for v in NO_MONEY:
            self.refused(row(1, [v, 8, 9]), -2)
            self.refused(row(1, [7, v, 9]), -2)
            self.refused(row(2, [7, 8, v]), -2)

    def test_every_other_length(self):
        for size in range(21):
            if size != 3:
                self.refused(row(1, [0] * size), -2)
                self.refused(row(2, [BILLION] * size), -2)
                self.refused(row(2, [-FAR] * size), -2)

    def test_no_such_player_is_nearer_to_0(self):
        for size in range(21):
            self.refused(row(0, [7] * size), -1)
            self.refused(row(3, [-7] * size), -1)
        for v in NO_MONEY:
            self.refused(row(-FAR, [7, v, 9]), -1)

    def test_the_length_asked_is_of_firms_not_players(self):
        self.refused(row(1, [7, 8]), -2)
        self.assertEqual(ask(begin(3, 2), row(1, [7, 8]), row(1, [7, 8, 9]), look(1)), [[0], [0], [-2], [7, 8]])

    def test_the_same_numbers_for_two_players_stay_apart(self):
        told = ask(begin(2, 2), row(1, [7, 8]), row(2, [7, 8]), worth(1, 2, 5), look(1), look(2))
        self.assertEqual(told[-2:], [[7, 5], [7, 8]])

    def test_the_longest_row_of_a_table(self):
        self.assertEqual(last(begin(5, 6), row(5, [1, 2, 3, 4, 5, 6]), look(5)), [1, 2, 3, 4, 5, 6])


class Look(unittest.TestCase):
    def test_each_player(self):
        self.assertEqual(last(*TABLE, look(1)), [10, 20, 30])
        self.assertEqual(last(*TABLE, look(2)), [40, 50, 60])

    def test_no_such_player(self):
        for p in NO_PLAYER_OF_2:
            with self.subTest(p=p):
                self.assertEqual(last(*TABLE, look(p)), [-1])

    def test_worths_are_told_whole_whatever_the_base(self):
        self.assertEqual(last(base(1, BILLION), worth(1, 1, 5), look(1)), [5])

    def test_a_look_before_is_not_changed_behind(self):
        self.assertEqual(ask(look(1), worth(1, 1, 5), look(1)), [[0], [0], [5]])


class Refused(unittest.TestCase):
    def test_what_is_asked_behind_refusals_is_as_if_they_were_not(self):
        refusals = [
            begin(0, 3), begin(2, 0), begin(6, 7), base(0, 9), base(1, -1), worth(3, 1, 9), worth(1, 1, BILLION + 1),
            row(1, [9, 9]), row(2, [9, 9, -9]), row(0, [9, 9, 9]),
        ]
        asked = [BEST, PRICES, GREATEST, look(1), look(2)]
        self.assertEqual(ask(*TABLE, *refusals, *asked)[-5:], ask(*TABLE, *asked)[-5:])


if __name__ == "__main__":
    unittest.main()
