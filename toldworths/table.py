"""The table of told worths: `answers` takes a list of calls and answers them one behind another.

Players and firms are counted from 1 in calls and answers, and from 0 in the lists kept here.
"""

MOST_PLAYERS = 5
MOST_FIRMS = 6
MOST_MONEY = 1000000000
MOST_ROUNDS = 1000

# The refusals, by the kind of argument that is not right. Any other kind is refused as out of range.
REFUSALS = {"player": -1, "firm": -1, "assignment": -3}
OUT_OF_RANGE = -2


class Table:
    """The firms' bases, each player's worths for the firms, and the clock's prices."""

    def __init__(self, players, firms):
        self.lay(players, firms)

    def lay(self, players, firms):
        self.bases = [0] * firms
        self.worths = [[0] * firms for p in range(players)]
        self.clock = [0] * firms

    def set_clock_back(self):
        self.clock = list(self.bases)

    def wins(self):
        return [gains_at(worths, self.bases) for worths in self.worths]


def gains_at(worths, prices):
    return [worth - price for worth, price in zip(worths, prices)]


def replaced(some, p, new):
    return some[:p - 1] + [new] + some[p:]


# What a player wins by each firm is that player's row of wins. A set of firms
# is a number whose bit i is set if firm i, counted from 0, is in the set; so
# the last of all sets is the one of all firms.


def greatest_with(row, behind):
    """For each set of firms the most that this player and those behind win by firms of the set."""
    greatest = []
    for free in range(len(behind)):
        most = behind[free]
        for i, win in enumerate(row):
            if free & (1 << i) != 0:
                most = max(most, win + behind[free - (1 << i)])
        greatest.append(most)
    return greatest


def greatest_by_last(wins):
    """At place k: for each set of firms the most that the last k players win by firms of the set."""
    by_last = [[0] * (1 << len(wins[0]))]
    for row in reversed(wins):
        by_last.append(greatest_with(row, by_last[-1]))
    return by_last


def greatest_total(wins):
    return greatest_by_last(wins)[-1][-1]


def with_next(begun, row, greatest, behind):
    """Each assignment begun, with each thing that the next player may get if the greatest is still to be won."""
    longer = []
    for assignment, free in begun:
        for i, win in enumerate(row):
            if free & (1 << i) != 0 and win + behind[free - (1 << i)] == greatest[free]:
                longer.append((assignment + [i + 1], free - (1 << i)))
        if behind[free] == greatest[free]:
            longer.append((assignment + [0], free))
    return longer


def best_assignments(wins):
    """All assignments that win the total, in order, so that the best assignment is the first."""
    by_last = greatest_by_last(wins)
    begun = [([], len(by_last[0]) - 1)]
    for p, row in enumerate(wins):
        left = len(wins) - p
        begun = with_next(begun, row, by_last[left], by_last[left - 1])
    return [assignment for assignment, free in begun]


def won_by(assignment, wins):
    return sum([row[i - 1] for i, row in zip(assignment, wins) if i != 0])


def total_without(wins, p):
    # Who wins 0 by every firm may as well get nothing: the total is the same.
    return greatest_total(replaced(wins, p, [0] * len(wins[0])))


def with_firm_again(wins, i):
    return [row + [row[i]] for row in wins]


def least_prices(bases, wins):
    total = greatest_total(wins)
    return [base + greatest_total(with_firm_again(wins, i)) - total for i, base in enumerate(bases)]


def greatest_prices(bases, wins):
    by_set = greatest_by_last(wins)[-1]
    every = len(by_set) - 1
    return [base + by_set[every] - by_set[every - (1 << i)] for i, base in enumerate(bases)]


def gain_by(i, worths, prices):
    return 0 if i == 0 else worths[i - 1] - prices[i - 1]


def gain_if_told(table, p, told):
    """What player p gains by their true worths if they tell this row."""
    wins = replaced(table.wins(), p, gains_at(told, table.bases))
    i = best_assignments(wins)[0][p - 1]
    return gain_by(i, table.worths[p - 1], least_prices(table.bases, wins))


def greatest_gain(gains):
    return max([0] + gains)


def demanded(gains):
    greatest = greatest_gain(gains)
    return [i for i, gain in enumerate(gains, start=1) if gain == greatest]


def is_competitive(table, prices):
    """Whether these prices are competitive, told by sums, with no look at each assignment.

    Where no price is below its base, what an assignment wins is the gains by it and what its firms
    cost above their bases. That is at most all greatest gains and all that any firm costs above its
    base; and it is just that if each player has their greatest gain and a firm left over costs its
    base, and never else. So it is asked whether the total is just that.
    """
    above = gains_at(prices, table.bases)
    greatest = [greatest_gain(gains_at(worths, prices)) for worths in table.worths]
    return min(above) >= 0 and sum(greatest) + sum(above) == greatest_total(table.wins())


def lists_in_order(firms):
    """Every list of firms, in the order in which the clock looks at them."""
    lists = [[]]
    for i in range(1, firms + 1):
        lists = lists + [some + [i] for some in lists]
    return sorted(sorted(lists[1:]), key=len)


def set_of(firms):
    return sum([1 << (i - 1) for i in firms])


def wanted_sets(rows, prices):
    """For each player whose greatest gain is above 0 the set of the firms that they demand."""
    all_gains = [gains_at(worths, prices) for worths in rows]
    return [set_of(demanded(gains)) for gains in all_gains if greatest_gain(gains) > 0]


def first_over(wanted, lists):
    """The first of the lists that is wanted too much, or an empty one if none is."""
    for some in lists:
        within = set_of(some)
        into = [firms for firms in wanted if firms & within == firms]
        if len(into) > len(some):
            return some
    return []


def make_rounds(table, k):
    """Makes at most k rounds of the clock and tells how many."""
    lists = lists_in_order(len(table.clock))
    before = []
    some = []
    for made in range(k):
        wanted = wanted_sets(table.worths, table.clock)
        # Mostly the same is wanted round after round, and then the same list is the first.
        if wanted != before:
            some = first_over(wanted, lists)
        if len(some) == 0:
            return made
        for i in some:
            table.clock[i - 1] += 1
        before = wanted
    return k


def is_right(table, kind, argument):
    """Whether this is what an argument of this kind may be."""
    if kind == "players":
        return 1 <= argument <= MOST_PLAYERS
    if kind == "firms":
        return 1 <= argument <= MOST_FIRMS
    if kind == "rounds":
        return 1 <= argument <= MOST_ROUNDS
    if kind == "player":
        return 1 <= argument <= len(table.worths)
    if kind == "firm":
        return 1 <= argument <= len(table.bases)
    if kind == "amount":
        return 0 <= argument <= MOST_MONEY
    if kind == "amounts":
        return len(argument) == len(table.bases) and all([is_right(table, "amount", v) for v in argument])
    return is_assignment(table, argument)


def is_assignment(table, some):
    got = [i for i in some if i != 0]
    known = all([is_right(table, "firm", i) for i in got])
    return len(some) == len(table.worths) and known and len(set(got)) == len(got)


def answer_begin(table, n, m):
    table.lay(n, m)
    return [0]


def answer_base(table, i, v):
    table.bases[i - 1] = v
    table.set_clock_back()
    return [0]


def answer_worth(table, p, i, v):
    table.worths[p - 1][i - 1] = v
    table.set_clock_back()
    return [0]


def answer_row(table, p, worths):
    table.worths[p - 1] = worths
    table.set_clock_back()
    return [0]


def answer_look(table, p):
    return list(table.worths[p - 1])


def answer_total(table):
    return [greatest_total(table.wins())]


def answer_best(table):
    wins = table.wins()
    best = best_assignments(wins)[0]
    return [won_by(best, wins)] + best


def answer_given(table, firms):
    return [won_by(firms, table.wins())]


def answer_prices(table):
    return least_prices(table.bases, table.wins())


def answer_greatest(table):
    return greatest_prices(table.bases, table.wins())


def answer_gains(table):
    wins = table.wins()
    prices = least_prices(table.bases, wins)
    return [gain_by(i, worths, prices) for i, worths in zip(best_assignments(wins)[0], table.worths)]


def answer_competitive(table, prices):
    return [1 if is_competitive(table, prices) else 0]


def answer_demand(table, p, prices):
    gains = gains_at(table.worths[p - 1], prices)
    firms = demanded(gains)
    return [greatest_gain(gains), len(firms)] + firms


def answer_over(table, prices):
    firms = first_over(wanted_sets(table.worths, prices), lists_in_order(len(prices)))
    return [len(firms)] + firms


def answer_clock(table):
    return list(table.clock)


def answer_tick(table, k):
    made = make_rounds(table, k)
    return [made] + table.clock


def answer_restart(table):
    table.set_clock_back()
    return [0]


def answer_without(table, p):
    return [total_without(table.wins(), p)]


def answer_lie(table, p, worths):
    return [gain_if_told(table, p, worths), gain_if_told(table, p, table.worths[p - 1])]


def answer_burden(table, p):
    wins = table.wins()
    others = replaced(best_assignments(wins)[0], p, 0)
    return [total_without(wins, p) - won_by(others, wins)]


def answer_equals(table):
    return [len(best_assignments(table.wins()))]


# The kinds that are lists, with how many numbers they have before them.
LISTS = ("amounts", "assignment")

# Each call: what answers it if all its arguments are right, and of which kinds they are.
CALLS = {
    0: (answer_begin, ("players", "firms")),
    1: (answer_base, ("firm", "amount")),
    2: (answer_worth, ("player", "firm", "amount")),
    3: (answer_row, ("player", "amounts")),
    4: (answer_look, ("player",)),
    5: (answer_total, ()),
    6: (answer_best, ()),
    7: (answer_given, ("assignment",)),
    8: (answer_prices, ()),
    9: (answer_greatest, ()),
    10: (answer_gains, ()),
    11: (answer_competitive, ("amounts",)),
    12: (answer_demand, ("player", "amounts")),
    13: (answer_over, ("amounts",)),
    14: (answer_clock, ()),
    15: (answer_tick, ("rounds",)),
    16: (answer_restart, ()),
    17: (answer_without, ("player",)),
    18: (answer_lie, ("player", "amounts")),
    19: (answer_burden, ("player",)),
    20: (answer_equals, ()),
}


def taken(left, kind):
    number = left.pop()
    if kind in LISTS:
        return [left.pop() for k in range(number)]
    return number


def answer_by(answer, table, told):
    if len(told) == 0:
        return answer(table)
    if len(told) == 1:
        return answer(table, told[0])
    if len(told) == 2:
        return answer(table, told[0], told[1])
    return answer(table, told[0], told[1], told[2])


def answer_next(table, left):
    call = CALLS[left.pop()]
    told = [taken(left, kind) for kind in call[1]]
    wrong = [kind for kind, argument in zip(call[1], told) if not is_right(table, kind, argument)]
    if len(wrong) > 0:
        # All are below 0, so the greatest is the one nearest to it.
        return [max([REFUSALS.get(kind, OUT_OF_RANGE) for kind in wrong])]
    return answer_by(call[0], table, told)


def answers(calls):
    """For each call how many numbers are answered, then these."""
    # Turned round, so that what comes next is at the end, where it is taken off.
    left = list(reversed(calls))
    table = Table(1, 1)
    told = []
    while len(left) > 0:
        answered = answer_next(table, left)
        told.append(len(answered))
        told.extend(answered)
    return told
