"""A line as a whole: its beginning, its form, and that it leaves nothing behind."""

import io
import unittest
from contextlib import redirect_stderr, redirect_stdout

from tests.helper import (
    BEST, BILLION, CLOCK, EQUALS, FAR, GAINS, GREATEST, PRICES, RESTART, TOTAL,
    ask, base, begin, burden, competitive, demand, given, kept, last, lie, line_of, look, over, parted, row, tick,
    without, worth,
)
from toldworths.table import answers


def refuse(*rest, **named):
    raise AssertionError("the list handed in is changed")


class Untouchable(list):
    """A list that does not let itself be changed, not for a while either."""

    append = extend = insert = pop = remove = clear = sort = reverse = refuse
    __setitem__ = __delitem__ = __iadd__ = __imul__ = refuse


def mixed_line():
    """All 21 kinds of calls, and each refusal."""
    return line_of([
        begin(2, 3), base(2, 4), worth(1, 1, 9), row(2, [7, 8, 0]), look(1), look(2), TOTAL, BEST,
        given([3, 1]), given([1, 1]), PRICES, GREATEST, GAINS, row(2, [1]), base(4, 1), worth(1, 1, -1), begin(0, 0),
        competitive([7, 4, 0]), competitive([0, 0, 0]), demand(1, [7, 4, 0]), over([0, 0, 0]), over([9, 9, 9]),
        tick(3), CLOCK, tick(1000), CLOCK, RESTART, CLOCK, without(1), lie(1, [0, 9, 9]), burden(1), EQUALS,
        look(1), look(2), competitive([1]), demand(3, [1]), demand(2, [1]), over([]), tick(0), without(0),
        lie(1, [-1, 0, 0]), lie(-1, []), burden(3), CLOCK,
    ])


def hundred_calls():
    """All 21 kinds of calls on a table of 5 players and 6 firms, with worths and bases at both ends."""
    calls = [
        begin(5, 6), base(1, BILLION), base(2, 0), row(1, [BILLION] * 6), row(2, [0] * 6), row(3, [BILLION, 0] * 3),
        row(4, [0, BILLION, 0, BILLION, 0, 0]), row(5, [BILLION] * 5 + [0]), worth(2, 3, BILLION), worth(1, 6, 0),
    ]
    asked = [
        tick(1000), CLOCK, TOTAL, BEST, PRICES, GREATEST, GAINS, EQUALS, look(3), given([1, 2, 3, 4, 5]),
        competitive([BILLION] * 6), demand(1, [BILLION] * 6), over([BILLION] + [0] * 5), without(1),
        lie(1, [BILLION] * 6), burden(5), RESTART, base(6, BILLION),
    ]
    return calls + asked * 5


class Beginning(unittest.TestCase):
    """With no begin ahead there is 1 player and 1 firm, worth and base are 0."""

    def test_each_call_first(self):
        firsts = [
            (begin(1, 1), [0]), (begin(5, 6), [0]), (begin(6, 1), [-2]),
            (base(1, 3), [0]), (base(2, 3), [-1]), (base(1, -1), [-2]),
            (worth(1, 1, 3), [0]), (worth(2, 1, 3), [-1]), (worth(1, 2, 3), [-1]), (worth(1, 1, -1), [-2]),
            (row(1, [3]), [0]), (row(2, [3]), [-1]), (row(1, [3, 3]), [-2]), (row(1, []), [-2]),
            (look(1), [0]), (look(2), [-1]), (look(0), [-1]),
            (TOTAL, [0]), (BEST, [0, 1]),
            (given([1]), [0]), (given([0]), [0]), (given([2]), [-3]), (given([]), [-3]), (given([0, 1]), [-3]),
            (PRICES, [0]), (GREATEST, [0]), (GAINS, [0]),
            (competitive([0]), [1]), (competitive([1]), [0]), (competitive([BILLION]), [0]),
            (competitive([-1]), [-2]), (competitive([BILLION + 1]), [-2]), (competitive([]), [-2]),
            (competitive([0, 0]), [-2]),
            (demand(1, [0]), [0, 1, 1]), (demand(1, [1]), [0, 0]), (demand(0, [0]), [-1]), (demand(2, [0]), [-1]),
            (demand(1, [-1]), [-2]), (demand(1, []), [-2]), (demand(1, [0, 0]), [-2]), (demand(2, []), [-1]),
            (over([0]), [0]), (over([BILLION]), [0]), (over([-1]), [-2]), (over([]), [-2]), (over([0, 0]), [-2]),
            (CLOCK, [0]),
            (tick(1), [0, 0]), (tick(1000), [0, 0]), (tick(0), [-2]), (tick(1001), [-2]), (tick(-1), [-2]),
            (RESTART, [0]),
            (without(1), [0]), (without(0), [-1]), (without(2), [-1]), (without(-1), [-1]),
            (lie(1, [0]), [0, 0]), (lie(1, [BILLION]), [0, 0]), (lie(0, [0]), [-1]), (lie(2, [0]), [-1]),
            (lie(1, [-1]), [-2]), (lie(1, []), [-2]), (lie(1, [0, 0]), [-2]), (lie(2, []), [-1]),
            (burden(1), [0]), (burden(0), [-1]), (burden(2), [-1]), (burden(-1), [-1]),
            (EQUALS, [2]),
        ]
        for call, answer in firsts:
            with self.subTest(call=call):
                self.assertEqual(answers(call), [len(answer)] + answer)

    def test_changes_without_begin(self):
        self.assertEqual(kept([base(1, 4), worth(1, 1, 9)], 1, 1), ([[9]], [4]))
        self.assertEqual(last(row(1, [7]), BEST), [7, 1])


class Form(unittest.TestCase):
    def test_counts_and_numbers_one_behind_another(self):
        line = line_of([begin(2, 3), look(1), look(3), BEST, row(1, [5, 6, 7]), BEST, given([]), PRICES])
        self.assertEqual(answers(line), [
            1, 0, 3, 0, 0, 0, 1, -1, 3, 0, 1, 2, 1, 0, 3, 7, 3, 1, 1, -3, 3, 0, 0, 0,
        ])

    def test_a_refused_call_is_read_to_its_end(self):
        refused = [
            begin(FAR, -FAR), base(5, 5), base(1, -5), worth(5, 5, 5), worth(1, 1, -5), row(5, [5] * 6),
            row(1, [8] * 20), row(1, []), look(5), given([5] * 20), given([]),
            competitive([5] * 20), competitive([]), demand(5, [5] * 20), demand(5, []), demand(1, [5] * 20),
            demand(1, []), over([5] * 20), over([]), tick(FAR), without(5), lie(5, [5] * 20), lie(5, []),
            lie(1, [5] * 20), lie(1, []), burden(5),
        ]
        for call in refused:
            with self.subTest(call=call):
                self.assertEqual(ask(worth(1, 1, 3), call, look(1), TOTAL)[2:], [[3], [3]])

    def test_whole_numbers_alone(self):
        told = answers(mixed_line())
        self.assertIs(type(told), list)
        for number in told:
            self.assertIs(type(number), int)

    def test_a_hundred_calls(self):
        calls = [begin(5, 6)]
        for k in range(33):
            calls += [worth(k % 5 + 1, k % 6 + 1, k), look(k % 5 + 1), TOTAL]
        told = ask(*calls)
        self.assertEqual(len(told), 100)
        self.assertEqual(told[1::3], [[0]] * 33)
        self.assertEqual([answer[k % 6] for k, answer in enumerate(told[2::3])], list(range(33)))
        self.assertEqual(told[3::3][:7], [[0], [1], [3], [6], [10], [15], [20]])
        self.assertEqual(told[-1], [28 + 29 + 30 + 31 + 32])

    def test_a_hundred_calls_of_all_kinds(self):
        calls = hundred_calls()
        self.assertEqual(len(calls), 100)
        self.assertEqual({call[0] for call in calls}, set(range(21)))
        told = ask(*calls)
        self.assertEqual(told[:10], [[0]] * 10)
        # All five want the firms 2 to 5; to get firm 1 at its base or firm 6 is as good as none.
        clock = [BILLION, 1000, 1000, 1000, 1000, 0]
        self.assertEqual(told[10:28], [
            [1000] + clock, clock, [4 * BILLION], [4 * BILLION, 1, 3, 5, 2, 4], [BILLION] * 5 + [0],
            [BILLION] * 5 + [0], [0] * 5, [44], [BILLION, 0] * 3, [3 * BILLION],
            [0], [0, 5, 1, 2, 3, 4, 5], [4, 2, 3, 4, 5], [4 * BILLION],
            [0, 0], [BILLION], [0], [0],
        ])
        self.assertEqual(told[28][0], 1000)
        self.assertEqual(told[46:64], told[28:46])
        self.assertEqual(told[64:82], told[28:46])

    def test_a_hundred_of_one_call(self):
        table = [begin(5, 6)] + [row(p, [BILLION - p * i for i in range(6)]) for p in range(1, 6)]
        for call, size in [(TOTAL, 1), (BEST, 6), (PRICES, 6), (GREATEST, 6), (GAINS, 5), (given([0] * 20), 1),
                           (competitive([0] * 6), 1), (demand(1, [0] * 6), 3), (over([0] * 6), 2), (CLOCK, 6),
                           (without(1), 1), (lie(1, [0] * 6), 2), (burden(1), 1), (EQUALS, 1), (RESTART, 1)]:
            with self.subTest(call=call):
                told = ask(*table, *[call] * 94)[6:]
                self.assertEqual(len(told[0]), size)
                self.assertEqual(told, [told[0]] * 94)


class LeavesNothing(unittest.TestCase):
    def test_the_list_handed_in_stays_the_same(self):
        line = mixed_line()
        before = list(line)
        answers(line)
        self.assertEqual(line, before)

    def test_the_list_handed_in_is_not_changed_for_a_while(self):
        line = mixed_line()
        self.assertEqual(answers(Untouchable(line)), answers(line))

    def test_twice_the_same(self):
        for line in (mixed_line(), line_of(hundred_calls())):
            before = list(line)
            self.assertEqual(answers(line), answers(line))
            self.assertEqual(line, before)

    def test_each_time_is_as_the_first(self):
        asked = (BEST, look(1), PRICES, GREATEST, CLOCK, EQUALS, tick(5), competitive([0]))
        firsts = [answers(call) for call in asked]
        answers(line_of([base(1, 3), worth(1, 1, 8)]))
        answers(line_of([begin(4, 4), row(2, [9, 9, 9, 9]), row(3, [9, 0, 0, 0]), row(4, [9, 0, 0, 0]), tick(3)]))
        self.assertEqual([answers(call) for call in asked], firsts)

    def test_an_answer_that_is_changed_changes_no_other(self):
        line = line_of([row(1, [6]), look(1)])
        told = answers(line)
        told[:] = [99] * len(told)
        self.assertEqual(answers(line), [1, 0, 1, 6])

    def test_prints_nothing(self):
        with redirect_stdout(io.StringIO()) as out, redirect_stderr(io.StringIO()) as err:
            answers(mixed_line())
        self.assertEqual(out.getvalue() + err.getvalue(), "")

    def test_asking_changes_nothing(self):
        asked = [
            look(1), TOTAL, BEST, given([2, 1]), PRICES, GREATEST, GAINS, competitive([4, 0]), demand(2, [4, 0]),
            over([2, 0]), CLOCK, without(1), lie(2, [0, 9]), burden(2), EQUALS,
        ]
        table = [begin(2, 2), base(1, 2), row(1, [9, 4]), row(2, [9, 1]), tick(2)]
        once = ask(*table, *asked)[5:]
        twice = ask(*table, *asked, *reversed(asked), *asked)[5:]
        self.assertEqual(twice, once + once[::-1] + once)


class Parted(unittest.TestCase):
    def test_counts_that_do_not_fit_are_seen(self):
        for told in ([2, 1], [0], [1, 5, 3, 1]):
            with self.assertRaises(AssertionError):
                parted(told)


if __name__ == "__main__":
    unittest.main()
