"""Whole lines of calls, chosen by chance, against the document's words worked out the long way."""

import random
import unittest

from tests.helper import (
    BEST, BILLION, CLOCK, EQUALS, FAR, GAINS, GREATEST, PRICES, RESTART, TOTAL,
    ask, assignments, base, begin, burden, competitive, demand, given, lie, look, over, row, tick,
    told_best, told_burden, told_competitive, told_demand, told_equals, told_gains, told_greatest, told_lie, told_over,
    told_prices, told_tick, told_total, told_win, told_without, without, worth,
)


class Told:
    """The table as the words tell it. Each call gives the refusals that are due, and else what it answers."""

    def __init__(self):
        self.bases, self.worths, self.clock = [0], [[0]], [0]

    def answer(self, call):
        number, *told = call
        if number in (3, 12, 18):
            told = [told[0], told[2:]]
        elif number in (7, 11, 13):
            told = [told[1:]]
        refusals = self.refusals(number, told)
        if refusals:
            return [max(refusals)]
        if number in (0, 1, 2, 3, 15, 16):
            return self.change(number, told)
        return self.asked(number, told)

    def refusals(self, number, told):
        players, firms = len(self.worths), len(self.bases)
        due = []
        if number == 0 and not (1 <= told[0] <= 5 and 1 <= told[1] <= 6):
            due.append(-2)
        if number in (2, 3, 4, 12, 17, 18, 19) and not 1 <= told[0] <= players:
            due.append(-1)
        if number in (1, 2) and not 1 <= told[-2] <= firms:
            due.append(-1)
        if number in (1, 2) and not 0 <= told[-1] <= BILLION:
            due.append(-2)
        if number in (3, 11, 12, 13, 18) and not (len(told[-1]) == firms and all(0 <= v <= BILLION for v in told[-1])):
            due.append(-2)
        if number == 7 and tuple(told[0]) not in assignments(players, firms):
            due.append(-3)
        if number == 15 and not 1 <= told[0] <= 1000:
            due.append(-2)
        return due

    def change(self, number, told):
        if number == 15:
            made, *self.clock = told_tick(self.worths, self.clock, told[0])
            return [made] + self.clock
        if number == 0:
            self.bases, self.worths = [0] * told[1], [[0] * told[1] for p in range(told[0])]
        elif number == 1:
            self.bases[told[0] - 1] = told[1]
        elif number == 2:
            self.worths[told[0] - 1][told[1] - 1] = told[2]
        elif number == 3:
            self.worths[told[0] - 1] = list(told[1])
        self.clock = list(self.bases)
        return [0]

    def asked(self, number, told):
        bases, worths = self.bases, self.worths
        return {
            4: lambda: worths[told[0] - 1],
            5: lambda: [told_total(bases, worths)],
            6: lambda: told_best(bases, worths),
            7: lambda: [told_win(bases, worths, told[0])],
            8: lambda: told_prices(bases, worths),
            9: lambda: told_greatest(bases, worths),
            10: lambda: told_gains(bases, worths),
            11: lambda: [int(told_competitive(bases, worths, told[0]))],
            12: lambda: told_demand(worths[told[0] - 1], told[1]),
            13: lambda: told_over(worths, told[0]),
            14: lambda: self.clock,
            17: lambda: [told_without(bases, worths, told[0])],
            18: lambda: told_lie(bases, worths, told[0], told[1]),
            19: lambda: [told_burden(bases, worths, told[0])],
            20: lambda: [told_equals(bases, worths)],
        }[number]()


class Chance:
    """Calls chosen by chance, most of them right for a table of about this size."""

    def __init__(self, seed, players, firms, top):
        self.random = random.Random(seed)
        self.players, self.firms, self.top = players, firms, top

    def begin(self):
        return begin(self.players, self.firms)

    def wrong(self):
        return self.random.choice((-FAR, -BILLION, -1, 0, 7, BILLION + 1, FAR))

    def mostly(self, low, high):
        return self.wrong() if self.random.random() < 0.04 else self.random.randint(low, high)

    def player(self):
        return self.mostly(1, self.players)

    def firm(self):
        return self.mostly(1, self.firms)

    def amount(self):
        return self.mostly(0, self.top)

    def amounts(self):
        size = self.random.randint(0, 20) if self.random.random() < 0.04 else self.firms
        return [self.random.randint(0, self.top) if self.random.random() < 0.99 else self.wrong() for i in range(size)]

    def some_firms(self):
        return [self.random.choice((0, self.mostly(1, self.firms))) for p in range(self.players)]

    def call(self):
        return self.random.choice((
            lambda: begin(self.wrong(), self.firms), lambda: begin(self.players, self.wrong()),
            lambda: base(self.firm(), self.amount()), lambda: worth(self.player(), self.firm(), self.amount()),
            lambda: row(self.player(), self.amounts()), lambda: row(self.player(), self.amounts()),
            lambda: row(self.player(), self.amounts()), lambda: look(self.player()), lambda: TOTAL, lambda: BEST,
            lambda: given(self.some_firms()), lambda: PRICES, lambda: GREATEST, lambda: GAINS,
            lambda: competitive(self.amounts()), lambda: demand(self.player(), self.amounts()),
            lambda: over(self.amounts()), lambda: CLOCK, lambda: RESTART, lambda: tick(self.mostly(1, 3)),
            lambda: tick(self.mostly(1, 9)), lambda: tick(1000 if self.top < 1000 else 20),
            lambda: without(self.player()), lambda: lie(self.player(), self.amounts()), lambda: burden(self.player()),
            lambda: EQUALS,
        ))()


class Lines(unittest.TestCase):
    def same(self, calls):
        told = Told()
        right = [list(told.answer(call)) for call in calls]
        for call, answer, words in zip(calls, ask(*calls), right):
            self.assertEqual(answer, words, call)

    def test_lines_of_small_tables(self):
        for seed in range(30):
            for top in (2, 6, 40):
                chance = Chance(seed, seed % 5 + 1, seed % 4 + 1, top)
                with self.subTest(seed=seed, top=top):
                    self.same([chance.begin()] + [chance.call() for k in range(99)])

    def test_lines_with_no_begin_ahead(self):
        for seed in range(20):
            chance = Chance(seed, 1, 1, (3, 20, BILLION)[seed % 3])
            with self.subTest(seed=seed):
                self.same([chance.call() for k in range(100)])

    def test_lines_of_great_worths(self):
        for seed in range(10):
            chance = Chance(seed, seed % 3 + 2, seed % 4 + 1, BILLION)
            with self.subTest(seed=seed):
                self.same([chance.begin()] + [chance.call() for k in range(99)])

    def test_lines_of_the_greatest_table(self):
        for seed in range(2):
            chance = Chance(seed, 5, 6, 9)
            with self.subTest(seed=seed):
                rows = [row(p, [chance.random.randint(0, 9) for i in range(6)]) for p in range(1, 6)]
                self.same([chance.begin()] + rows + [chance.call() for k in range(40)])


if __name__ == "__main__":
    unittest.main()
