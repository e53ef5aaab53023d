"""What the tests share: calls written by name, and the document's words worked out the long way."""

import random
import unittest
from functools import lru_cache
from itertools import combinations, product

from toldworths.table import answers

BILLION = 10 ** 9
FAR = 10 ** 18

TOTAL = [5]
BEST = [6]
PRICES = [8]
GREATEST = [9]
GAINS = [10]
CLOCK = [14]
RESTART = [16]
EQUALS = [20]

NO_MONEY = (-FAR, -BILLION, -1, BILLION + 1, FAR)
NO_PLAYER_OF_2 = (-FAR, -BILLION, -2, -1, 0, 3, 4, FAR)


def begin(n, m):
    return [0, n, m]


def base(i, v):
    return [1, i, v]


def worth(p, i, v):
    return [2, p, i, v]


def row(p, worths):
    return [3, p, len(worths)] + list(worths)


def look(p):
    return [4, p]


def given(firms):
    return [7, len(firms)] + list(firms)


def competitive(some):
    return [11, len(some)] + list(some)


def demand(p, some):
    return [12, p, len(some)] + list(some)


def over(some):
    return [13, len(some)] + list(some)


def tick(k):
    return [15, k]


def without(p):
    return [17, p]


def lie(p, worths):
    return [18, p, len(worths)] + list(worths)


def burden(p):
    return [19, p]


def line_of(calls):
    return [number for call in calls for number in call]


def parted(told):
    """The answers of a line, call by call; fails if the counts do not fit the numbers."""
    parts = []
    at = 0
    while at < len(told):
        size = told[at]
        part = told[at + 1:at + 1 + size]
        if size < 1 or len(part) != size:
            raise AssertionError(f"counts that do not fit at {at}: {told}")
        parts.append(part)
        at += 1 + size
    return parts


def ask(*calls):
    """One answer for each call."""
    parts = parted(answers(line_of(calls)))
    if len(parts) != len(calls):
        raise AssertionError(f"{len(calls)} calls, {len(parts)} answers")
    return parts


def last(*calls):
    return ask(*calls)[-1]


def laid(bases, worths):
    """The calls that lay this table."""
    calls = [begin(len(worths), len(bases))]
    calls += [base(i, v) for i, v in enumerate(bases, 1)]
    calls += [row(p, worths_of) for p, worths_of in enumerate(worths, 1)]
    return calls


def of_table(bases, worths, call):
    return last(*laid(bases, worths), call)


def tables(seed, most_worth, most_base, most_players=5, most_firms=6):
    """A table of each size, as bases and worths; the same seed brings the same tables."""
    chance = random.Random(seed)
    for n in range(1, most_players + 1):
        for m in range(1, most_firms + 1):
            bases = [chance.randint(0, most_base) for i in range(m)]
            yield bases, [[chance.randint(0, most_worth) for i in range(m)] for p in range(n)]


def looks(n, m):
    """Calls by whose answers all worths and bases of a table are known."""
    alone = [[i] + [0] * (n - 1) for i in range(1, m + 1)]
    return [look(p) for p in range(1, n + 1)] + [given(firms) for firms in alone]


def kept(calls, n, m):
    """The worths and the bases behind these calls."""
    seen = ask(*calls, *looks(n, m))[len(calls):]
    worths = seen[:n]
    bases = [worths[0][i] - seen[n + i][0] for i in range(m)]
    return worths, bases


def all_kept(calls, n, m):
    """Answers by which all is known that is kept behind these calls, the clock too."""
    return ask(*calls, *looks(n, m), CLOCK)[len(calls):]


class AskedOf2And3(unittest.TestCase):
    """What is asked of a table of 2 players and 3 firms whose clock has been moved."""

    BASES = [1, 2, 3]
    WORTHS = [[10, 20, 30], [40, 50, 60]]
    TABLE = laid(BASES, WORTHS) + [tick(5)]
    KEPT = WORTHS + [[9], [18], [27]] + [[1, 2, 8]]

    def asked(self, call, answer):
        """The call is answered like this, and nothing has changed behind it."""
        with self.subTest(call=call):
            self.assertEqual(last(*self.TABLE, call), answer)
            self.assertEqual(all_kept(self.TABLE + [call], 2, 3), self.KEPT)


@lru_cache(maxsize=None)
def assignments(n, m):
    """Every assignment, the first in the document's order first."""
    order = list(range(1, m + 1)) + [0]
    every = []
    for firms in product(order, repeat=n):
        got = [i for i in firms if i]
        if len(set(got)) == len(got):
            every.append(firms)
    return every


def told_win(bases, worths, firms):
    return sum(worths[p][i - 1] - bases[i - 1] for p, i in enumerate(firms) if i)


def told_total(bases, worths):
    return max(told_win(bases, worths, firms) for firms in assignments(len(worths), len(bases)))


def told_best(bases, worths):
    total = told_total(bases, worths)
    for firms in assignments(len(worths), len(bases)):
        if told_win(bases, worths, firms) == total:
            return [total] + list(firms)


def told_prices(bases, worths):
    total = told_total(bases, worths)
    found = []
    for i, v in enumerate(bases):
        more = told_total(bases + [v], [worths_of + [worths_of[i]] for worths_of in worths])
        found.append(v + more - total)
    return found


def told_greatest(bases, worths):
    total = told_total(bases, worths)
    found = []
    for i, v in enumerate(bases):
        less = told_total(bases[:i] + bases[i + 1:], [worths_of[:i] + worths_of[i + 1:] for worths_of in worths])
        found.append(v + total - less)
    return found


def told_gain(worths_of, prices, i):
    return worths_of[i - 1] - prices[i - 1] if i else 0


def told_gains(bases, worths):
    prices = told_prices(bases, worths)
    firms = told_best(bases, worths)[1:]
    return [told_gain(worths_of, prices, i) for worths_of, i in zip(worths, firms)]


def told_greatest_gain(worths_of, prices):
    return max(told_gain(worths_of, prices, i) for i in range(len(prices) + 1))


def told_demand(worths_of, prices):
    most = told_greatest_gain(worths_of, prices)
    firms = [i for i in range(1, len(prices) + 1) if told_gain(worths_of, prices, i) == most]
    return [most, len(firms)] + firms


def told_competitive(bases, worths, prices):
    if any(price < v for price, v in zip(prices, bases)):
        return False
    most = [told_greatest_gain(worths_of, prices) for worths_of in worths]
    above = [i for i, v in enumerate(bases, 1) if prices[i - 1] != v]
    for firms in assignments(len(worths), len(bases)):
        content = all(told_gain(worths[p], prices, i) == most[p] for p, i in enumerate(firms))
        if content and all(i in firms for i in above):
            return True
    return False


def told_over(worths, prices):
    demands = [told_demand(worths_of, prices) for worths_of in worths]
    for size in range(1, len(prices) + 1):
        for some in combinations(range(1, len(prices) + 1), size):
            into = [firms for most, count, *firms in demands if most > 0 and set(firms) <= set(some)]
            if len(into) > size:
                return [size] + list(some)
    return [0]


def told_tick(worths, clock, k):
    """How many rounds are made, then the prices behind them."""
    prices = list(clock)
    for made in range(k):
        some = told_over(worths, prices)[1:]
        if not some:
            return [made] + prices
        prices = [price + (i in some) for i, price in enumerate(prices, 1)]
    return [k] + prices


def told_without(bases, worths, p):
    every = assignments(len(worths), len(bases))
    return max(told_win(bases, worths, firms) for firms in every if not firms[p - 1])


def told_burden(bases, worths, p):
    firms = told_best(bases, worths)[1:]
    firms[p - 1] = 0
    return told_without(bases, worths, p) - told_win(bases, worths, firms)


def told_lie(bases, worths, p, told):
    true = worths[p - 1]
    gains = []
    for worths_of in (told, true):
        table = worths[:p - 1] + [worths_of] + worths[p:]
        gains.append(told_gain(true, told_prices(bases, table), told_best(bases, table)[p]))
    return gains


def told_equals(bases, worths):
    wins = [told_win(bases, worths, firms) for firms in assignments(len(worths), len(bases))]
    return wins.count(max(wins))
