"""The clock: its prices, its rounds, and what sets it back."""

import unittest

from tests.helper import (
    BEST, BILLION, CLOCK, EQUALS, FAR, GAINS, GREATEST, PRICES, RESTART, TOTAL, AskedOf2And3,
    ask, base, begin, burden, competitive, demand, given, laid, last, lie, look, of_table, over, row, tables, tick,
    told_prices, told_tick, without, worth,
)


class Clock(AskedOf2And3):
    def test_ordinary_and_nothing_changes(self):
        self.asked(CLOCK, [1, 2, 8])

    def test_a_price_for_each_firm(self):
        for n in range(1, 6):
            for m in range(1, 7):
                self.assertEqual(last(begin(n, m), CLOCK), [0] * m)

    def test_is_not_handed_out_itself(self):
        told = ask(begin(2, 1), row(1, [9]), row(2, [9]), CLOCK, tick(4), CLOCK, tick(2), CLOCK)
        self.assertEqual(told[3:], [[0], [4, 4], [4], [2, 6], [6]])


class SetBack(AskedOf2And3):
    """The clock behind begin, base, worth, row and restart."""

    def behind(self, call, clock):
        with self.subTest(call=call):
            self.assertEqual(ask(*self.TABLE, call, CLOCK)[-2:], [[0], clock])

    def test_begin(self):
        self.behind(begin(2, 3), [0, 0, 0])
        self.behind(begin(1, 1), [0])
        self.behind(begin(5, 6), [0] * 6)

    def test_base(self):
        self.behind(base(1, 4), [4, 2, 3])
        self.behind(base(3, 4), [1, 2, 4])
        self.behind(base(3, 3), [1, 2, 3])
        self.behind(base(2, BILLION), [1, BILLION, 3])
        self.behind(base(2, 0), [1, 0, 3])

    def test_worth(self):
        self.behind(worth(1, 1, 0), [1, 2, 3])
        self.behind(worth(2, 3, BILLION), [1, 2, 3])
        self.behind(worth(1, 1, 10), [1, 2, 3])

    def test_row(self):
        self.behind(row(1, [0, 0, 0]), [1, 2, 3])
        self.behind(row(2, [40, 50, 60]), [1, 2, 3])

    def test_restart(self):
        self.behind(RESTART, [1, 2, 3])

    def test_restart_leaves_the_table(self):
        kept = ask(*self.TABLE, RESTART, look(1), look(2), PRICES, BEST)[-4:]
        self.assertEqual(kept, ask(*self.TABLE, look(1), look(2), PRICES, BEST)[-4:])

    def test_restart_with_nothing_to_set_back(self):
        self.assertEqual(ask(RESTART, CLOCK, RESTART, CLOCK), [[0], [0], [0], [0]])
        self.assertEqual(ask(base(1, 5), RESTART, CLOCK), [[0], [0], [5]])

    def test_the_bases_are_not_the_clock(self):
        told = ask(*laid([3], [[9], [9]]), tick(2), RESTART, CLOCK, tick(4), RESTART, CLOCK, PRICES)
        self.assertEqual(told[-7:], [[2, 5], [0], [3], [4, 7], [0], [3], [9]])

    def test_it_runs_on_from_where_it_was_set_back(self):
        self.assertEqual(ask(*self.TABLE, RESTART, tick(2))[-1], [2, 1, 2, 5])
        self.assertEqual(ask(*self.TABLE, worth(1, 3, 29), tick(1000))[-1], [8, 1, 2, 11])

    def test_calls_that_are_refused_leave_it(self):
        refused = [
            (begin(0, 1), -2), (begin(1, 0), -2), (begin(6, 6), -2), (begin(5, 7), -2), (begin(-FAR, FAR), -2),
            (base(0, 1), -1), (base(4, 1), -1), (base(1, -1), -2), (base(1, BILLION + 1), -2), (base(-1, -1), -1),
            (worth(0, 1, 1), -1), (worth(3, 1, 1), -1), (worth(1, 0, 1), -1), (worth(1, 4, 1), -1),
            (worth(1, 1, -1), -2), (worth(1, 1, BILLION + 1), -2), (worth(0, 0, -1), -1),
            (row(0, [1, 1, 1]), -1), (row(3, [1, 1, 1]), -1), (row(1, [1, 1]), -2), (row(1, [1] * 4), -2),
            (row(1, [1, 1, -1]), -2), (row(1, [BILLION + 1, 1, 1]), -2), (row(1, []), -2), (row(0, []), -1),
        ]
        for call, answer in refused:
            self.asked(call, [answer])

    def test_calls_that_only_ask_leave_it(self):
        for call in (
            look(1), TOTAL, BEST, given([1, 2]), given([1, 1]), PRICES, GREATEST, GAINS, competitive([1, 2, 12]),
            demand(1, [1, 2, 3]), over([1, 2, 3]), CLOCK, without(1), lie(1, [5, 5, 5]), burden(2), EQUALS,
        ):
            with self.subTest(call=call):
                self.assertEqual(ask(*self.TABLE, call, CLOCK)[-1], [1, 2, 8])


class Tick(AskedOf2And3):
    def test_one_round(self):
        self.assertEqual(of_table([0], [[7], [5]], tick(1)), [1, 1])
        self.assertEqual(of_table([0, 0], [[7, 7]] * 3, tick(1)), [1, 1, 1])
        self.assertEqual(of_table([1, 2, 3], [[10, 20, 30], [40, 50, 60]], tick(1)), [1, 1, 2, 4])

    def test_each_firm_of_the_list_and_no_other(self):
        self.assertEqual(of_table([4, 1, 4, 9], [[9, 2, 9, 9]] * 3, tick(1)), [1, 5, 1, 5, 9])
        self.assertEqual(of_table([0, 0, 0], [[0, 0, 5], [0, 0, 5], [0, 5, 0], [0, 5, 0]], tick(1)), [1, 0, 1, 0])

    def test_fewer_rounds_where_there_are_no_more(self):
        self.assertEqual(of_table([0], [[7], [5]], tick(4)), [4, 4])
        self.assertEqual(of_table([0], [[7], [5]], tick(5)), [5, 5])
        self.assertEqual(of_table([0], [[7], [5]], tick(6)), [5, 5])
        self.assertEqual(of_table([0], [[7], [5]], tick(1000)), [5, 5])
        self.assertEqual(of_table([3], [[7], [5]], tick(1000)), [2, 5])

    def test_no_round_at_all(self):
        self.assertEqual(of_table([3], [[7]], tick(1000)), [0, 3])
        self.assertEqual(of_table([5], [[7], [5]], tick(1)), [0, 5])
        self.assertEqual(of_table([0] * 6, [[7] * 6] * 5, tick(1000)), [0] * 7)
        self.assertEqual(last(begin(5, 6), tick(1)), [0] * 7)

    def test_more_than_once(self):
        told = ask(*laid([0], [[7], [5]]), tick(2), tick(1), tick(9), tick(9), CLOCK)
        self.assertEqual(told[-5:], [[2, 2], [1, 3], [2, 5], [0, 5], [5]])

    def test_once_or_by_steps(self):
        table = laid([0, 3, 1, 2], [[20, 22, 19, 8], [21, 21, 21, 7], [30, 25, 18, 9], [17, 23, 20, 10], [9, 9, 9, 9]])
        whole = ask(*table, tick(60))[-1]
        steps = ask(*table, *[tick(1)] * 60)[-60:]
        self.assertEqual(sum(step[0] for step in steps), whole[0])
        self.assertEqual(steps[-1][1:], whole[1:])
        self.assertEqual(ask(*table, tick(7), tick(11))[-1], [11] + ask(*table, tick(18))[-1][1:])

    def test_ends_of_what_k_may_be(self):
        table = laid([0], [[BILLION], [BILLION]])
        told = ask(*table, tick(0), tick(1), tick(1000), tick(1001), tick(999), CLOCK)[len(table):]
        self.assertEqual(told, [[-2], [1, 1], [1000, 1001], [-2], [999, 2000], [2000]])

    def test_k_out_of_range(self):
        for k in (-FAR, -BILLION, -1000, -1, 0, 1001, 1002, BILLION, FAR):
            self.asked(tick(k), [-2])

    def test_leaves_all_but_the_clock(self):
        asked = [look(1), look(2), PRICES, GREATEST, BEST, GAINS, EQUALS]
        self.assertEqual(ask(*self.TABLE, tick(3), *asked)[-7:], ask(*self.TABLE, *asked)[-7:])

    def test_ends_of_the_range(self):
        self.assertEqual(of_table([BILLION], [[BILLION], [BILLION]], tick(1000)), [0, BILLION])
        self.assertEqual(of_table([BILLION - 1], [[BILLION], [BILLION]], tick(1000)), [1, BILLION])
        self.assertEqual(of_table([BILLION], [[0], [0]], tick(1000)), [0, BILLION])
        self.assertEqual(of_table([0], [[0], [0]], tick(1000)), [0, 0])

    def test_a_thousand_rounds_of_the_greatest_table(self):
        table = laid([0] * 6, [[BILLION] * 4 + [0, 0]] * 5)
        told = ask(*table, tick(1000), tick(1000), tick(1))[-3:]
        self.assertEqual(told, [[1000] + [1000] * 4 + [0, 0], [1000] + [2000] * 4 + [0, 0], [1] + [2001] * 4 + [0, 0]])

    def test_what_is_wanted_changes_on_the_way(self):
        # Firm 3 alone is raised until firm 2 is as good to the first player, then both until two players are out.
        table = laid([0, 0, 0], [[0, 4, 6], [0, 0, 6], [0, 9, 9]])
        self.assertEqual(ask(*table, *[tick(1)] * 7)[-7:], [
            [1, 0, 0, 1], [1, 0, 0, 2], [1, 0, 1, 3], [1, 0, 2, 4], [1, 0, 3, 5], [1, 0, 4, 6], [0, 0, 4, 6],
        ])

    def test_by_the_words(self):
        for seed, top in enumerate((1, 2, 4, 9, 25)):
            for bases, worths in tables(seed + 110, top, top // 2):
                told = ask(*laid(bases, worths), tick(1), tick(3), tick(1000))[-3:]
                clock = bases
                for k, answer in zip((1, 3, 1000), told):
                    with self.subTest(bases=bases, worths=worths, k=k):
                        self.assertEqual(answer, told_tick(worths, clock, k))
                    clock = answer[1:]

    def test_comes_to_the_least_prices(self):
        for seed, top in enumerate((2, 10, 60, 300)):
            for bases, worths in tables(seed + 120, top, top // 3):
                told = ask(*laid(bases, worths), PRICES, tick(1000), tick(1000), tick(1000), tick(1), CLOCK)[-6:]
                with self.subTest(bases=bases, worths=worths):
                    self.assertEqual(told[0], told_prices(bases, worths))
                    self.assertEqual(told[4], [0] + told[0])
                    self.assertEqual(told[5], told[0])


if __name__ == "__main__":
    unittest.main()
