"""The table of told worths: `answers` takes a list of calls and answers them one behind another.

Players and firms are counted from 1 in calls and answers, and from 0 in the lists kept here.
"""

MOST_PLAYERS = 5
MOST_FIRMS = 6
MOST_MONEY = 1000000000

NO_SUCH = -1
OUT_OF_RANGE = -2
NO_ASSIGNMENT = -3


class Line:
    """The list of calls and how far it has been read."""

    def __init__(self, numbers):
        self.numbers = numbers
        self.place = 0

    def has_more(self):
        return self.place < len(self.numbers)

    def take(self):
        number = self.numbers[self.place]
        self.place += 1
        return number

    def take_list(self):
        size = self.take()
        start = self.place
        self.place += size
        return self.numbers[start:self.place]


class Table:
    """The firms' bases, each player's worths for the firms, and the clock's prices."""

    def __init__(self, players, firms):
        self.lay(players, firms)

    def lay(self, players, firms):
        self.bases = [0] * firms
        self.worths = [[0] * firms for p in range(players)]
        self.clock = [0] * firms

    def has_player(self, p):
        return 1 <= p <= len(self.worths)

    def has_firm(self, i):
        return 1 <= i <= len(self.bases)

    def set_clock_back(self):
        self.clock = list(self.bases)

    def wins(self):
        return [less_bases(row, self.bases) for row in self.worths]


def less_bases(worths, bases):
    return [worth - base for worth, base in zip(worths, bases)]


def is_money(v):
    return 0 <= v <= MOST_MONEY


def is_money_list(some, firms):
    return len(some) == firms and all([is_money(v) for v in some])


def is_assignment(some, table):
    if len(some) != len(table.worths):
        return False
    got = [i for i in some if i != 0]
    return all([table.has_firm(i) for i in got]) and len(set(got)) == len(got)


# What a player wins by each firm is that player's row of wins. A set of firms
# is a number whose bit i is set if firm i, counted from 0, is in the set; so
# the last of all sets is the one of all firms.


def greatest_with(row, behind):
    """For each set of firms the most that this player and those behind win by firms of the set."""
    greatest = []
    for free in range(len(behind)):
        most = behind[free]
        for i, win in enumerate(row):
            if free & (1 << i) != 0:
                most = max(most, win + behind[free - (1 << i)])
        greatest.append(most)
    return greatest


def greatest_by_last(wins):
    """At place k: for each set of firms the most that the last k players win by firms of the set."""
    by_last = [[0] * (1 << len(wins[0]))]
    for row in reversed(wins):
        by_last.append(greatest_with(row, by_last[-1]))
    return by_last


def greatest_total(wins):
    return greatest_by_last(wins)[-1][-1]


def first_firm(row, free, behind, due):
    """The least firm by which this player and those behind still win what is due, or 0 if none does."""
    for i, win in enumerate(row):
        if free & (1 << i) != 0 and win + behind[free - (1 << i)] == due:
            return i + 1
    return 0


def best_assignment(wins):
    by_last = greatest_by_last(wins)
    free = len(by_last[0]) - 1
    assignment = []
    for p, row in enumerate(wins):
        left = len(wins) - p
        firm = first_firm(row, free, by_last[left - 1], by_last[left][free])
        assignment.append(firm)
        if firm != 0:
            free -= 1 << (firm - 1)
    return assignment


def won_by(assignment, wins):
    return sum([row[i - 1] for i, row in zip(assignment, wins) if i != 0])


def with_firm_again(wins, i):
    return [row + [row[i]] for row in wins]


def least_prices(bases, wins):
    total = greatest_total(wins)
    return [base + greatest_total(with_firm_again(wins, i)) - total for i, base in enumerate(bases)]


def greatest_prices(bases, wins):
    by_set = greatest_by_last(wins)[-1]
    every = len(by_set) - 1
    return [base + by_set[every] - by_set[every - (1 << i)] for i, base in enumerate(bases)]


def gain_by(i, worths, prices):
    if i == 0:
        return 0
    return worths[i - 1] - prices[i - 1]


# Each call takes its own arguments from the line, so that one way of asking
# serves every call. It takes all of them before it may refuse: the next call
# begins behind them.


def answer_begin(table, line):
    players = line.take()
    firms = line.take()
    if not (1 <= players <= MOST_PLAYERS and 1 <= firms <= MOST_FIRMS):
        return [OUT_OF_RANGE]
    table.lay(players, firms)
    return [0]


def answer_base(table, line):
    i = line.take()
    v = line.take()
    if not table.has_firm(i):
        return [NO_SUCH]
    if not is_money(v):
        return [OUT_OF_RANGE]
    table.bases[i - 1] = v
    table.set_clock_back()
    return [0]


def answer_worth(table, line):
    p = line.take()
    i = line.take()
    v = line.take()
    if not (table.has_player(p) and table.has_firm(i)):
        return [NO_SUCH]
    if not is_money(v):
        return [OUT_OF_RANGE]
    table.worths[p - 1][i - 1] = v
    table.set_clock_back()
    return [0]


def answer_row(table, line):
    p = line.take()
    worths = line.take_list()
    if not table.has_player(p):
        return [NO_SUCH]
    if not is_money_list(worths, len(table.bases)):
        return [OUT_OF_RANGE]
    table.worths[p - 1] = worths
    table.set_clock_back()
    return [0]


def answer_look(table, line):
    p = line.take()
    if not table.has_player(p):
        return [NO_SUCH]
    return list(table.worths[p - 1])


def answer_total(table, line):
    return [greatest_total(table.wins())]


def answer_best(table, line):
    wins = table.wins()
    assignment = best_assignment(wins)
    return [won_by(assignment, wins)] + assignment


def answer_given(table, line):
    some = line.take_list()
    if not is_assignment(some, table):
        return [NO_ASSIGNMENT]
    return [won_by(some, table.wins())]


def answer_prices(table, line):
    return least_prices(table.bases, table.wins())


def answer_greatest(table, line):
    return greatest_prices(table.bases, table.wins())


def answer_gains(table, line):
    wins = table.wins()
    prices = least_prices(table.bases, wins)
    return [gain_by(i, worths, prices) for i, worths in zip(best_assignment(wins), table.worths)]


CALLS = {
    0: answer_begin,
    1: answer_base,
    2: answer_worth,
    3: answer_row,
    4: answer_look,
    5: answer_total,
    6: answer_best,
    7: answer_given,
    8: answer_prices,
    9: answer_greatest,
    10: answer_gains,
}


def answers(calls):
    """For each call how many numbers are answered, then these."""
    line = Line(calls)
    table = Table(1, 1)
    told = []
    while line.has_more():
        answer = CALLS[line.take()]
        answered = answer(table, line)
        told.append(len(answered))
        told.extend(answered)
    return told
