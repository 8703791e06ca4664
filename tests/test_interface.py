"""The interface: the whole lists handed in and given back."""

import contextlib
import io
import unittest

import defaultfund.house
from defaultfund.house import answers
from asking import (
    apart, box, bytes_of, enough, fund, iftrade, leave, line_of, loss, margin, member, members, now, text, trade, unbox,
    uncovered, with_count, without,
)

LINE = line_of([
    uncovered(), now(100, 20, 0, 0), member(3, 10, "-3 F1@100 + 2 C1@110 - 40"), member(5, 0, "0"),
    box(9, 90, 130, 10, 20, 0, 5, 7, 7), uncovered(3), now(1, 2, 3), trade(3, 5, "4 F2@1"), uncovered(3, 5),
    uncovered(5), member(1, 0, "2000000000 F1@1"), margin(5, 6), uncovered(5), uncovered(5, 3), leave(3), unbox(9),
    unbox(9), uncovered(5),
])
TOLD = [
    6, 0, 0, 0, 0, 0, 0,
    1, 0,
    1, 1,
    1, 2,
    1, 1,
    6, 40, 9, 130, 10, 0, 7,
    1, -2,
    1, 0,
    6, 40, 9, 130, 10, 0, 7,
    6, 0, 0, 0, 0, 0, 0,
    1, -1011,
    1, 0,
    6, 0, 0, 0, 0, 0, 0,
    1, -1,
    1, 1,
    1, 0,
    1, -1,
    6, 0, 0, 0, 0, 0, 0,
]

# All sixteen calls on one object, each with what it answers, the count in front.
MIXED = [
    (members(), [1, 0]),
    (fund(3), [7, 0, 0, 0, 0, 0, 0, 0]),
    (now(100, 20, 0, 0), [1, 0]),
    (member(5, 0, "0"), [1, 1]),
    (member(3, 10, "-3 F1@100 + 2 C1@110 - 40"), [1, 2]),
    (box(9, 90, 130, 10, 20, 0, 5, 7, 7), [1, 1]),
    (fund(1), [8, 40, 1, 3, 9, 130, 10, 0, 7]),
    (iftrade(2, 3, 5, "4 F2@1"), [8, 80, 1, 3, 9, 130, 10, 0, 7]),
    (iftrade(2, 3, 5, "4 F2@"), [1, -1005]),
    (iftrade(4, 3, 3, "4 F2@"), [1, -1]),
    (members(), [7, 2, 3, 10, 3, 5, 0, 0]),
    (text(5), [2, 0, 48]),
    (trade(3, 5, "4 F2@1"), [1, 0]),
    (fund(2), [8, 80, 1, 3, 9, 130, 10, 0, 7]),
    (text(3), with_count([0] + bytes_of("-3 F1@100 + 2 C1@110 - 40 + 4 F2@1"))),
    (text(5), with_count([0] + bytes_of("-4 F2@1"))),
    (text(4), [1, -1]),
    (member(8, 7, "1 F3@0 + 5 F2@0 - 2 F1@0"), [1, 3]),
    (uncovered(8), [6, 103, 9, 130, 10, 0, 7]),
    (fund(2), [9, 183, 2, 3, 8, 9, 130, 10, 0, 7]),
    (fund(3), [9, 183, 2, 3, 8, 9, 130, 10, 0, 7]),
    (fund(0), [7, 0, 0, 0, 0, 0, 0, 0]),
    (fund(4), [1, -1]),
    (without(3, 8), [8, 80, 1, 3, 9, 130, 10, 0, 7]),
    (without(3, 3), [8, 103, 1, 8, 9, 130, 10, 0, 7]),
    (without(3, 4), [1, -2]),
    (enough(2, 182), [10, 0, 183, 2, 3, 8, 9, 130, 10, 0, 7]),
    (enough(2, 183), [1, 1]),
    (enough(2, -1), [1, -2]),
    (loss([3, 8], [130, 10, 0, 7]), [2, 0, 183]),
    (loss([5], [0, 0, 0, 0]), [2, 0, -80]),
    (loss([], [0, 0, 0, 0]), [2, 0, 0]),
    (loss([5, 3], [1]), [1, -1]),
    (loss([3, 5], [1]), [1, -2]),
    (apart(1), [1, 103]),
    (apart(3), [1, 183]),
    (apart(-1), [1, -1]),
    (margin(8, 107), [1, 7]),
    (fund(3), [9, 83, 2, 3, 8, 9, 130, 10, 0, 7]),
    (leave(3), [1, 2]),
    (fund(3), [8, 3, 1, 8, 9, 130, 10, 0, 7]),
    (unbox(9), [1, 0]),
    (fund(3), [7, 0, 0, 0, 0, 0, 0, 0]),
    (members(), [7, 2, 5, 0, 1, 8, 107, 3]),
]
MIXED_LINE = line_of([call for call, told in MIXED])
MIXED_TOLD = line_of([told for call, told in MIXED])


class Interface(unittest.TestCase):
    def test_the_whole_list(self):
        self.assertEqual(answers(list(LINE)), TOLD)

    def test_in_numbers(self):
        calls = [0, 4, 7, 0, 0, 0, 1, 2, 0, 6, 49, 32, 70, 49, 64, 51, 5, 1, 8, 2, 9, 0, 0, 0, 0, 0, 0, 7, 1, 2]
        self.assertEqual(answers(calls), [1, 0, 1, 1, 1, 1, 6, 5, 1, 2, 0, 0, 0])

    def test_all_calls_mixed(self):
        self.assertEqual({call[0] for call, told in MIXED}, set(range(16)))
        self.assertEqual(answers(list(MIXED_LINE)), MIXED_TOLD)

    def test_calls_in_numbers(self):
        calls = [0, 4, 7, 0, 0, 0, 1, 2, 0, 6, 49, 32, 70, 49, 64, 51, 1, 4, 9, 1, 48, 5, 1, 8, 2, 9, 0, 0, 0, 0, 0, 0]
        calls += [8, 1, 9, 1, 2, 10, 1, 2, 4, 1, 55, 11, 1, 4, 12, 2, 2, 4, 4, 2, 0, 0, 0, 13, 3, 14, 15, 2]
        told = [1, 0, 1, 1, 1, 2, 1, 1]
        told += [8, 5, 1, 2, 1, 2, 0, 0, 0, 7, 0, 0, 0, 0, 0, 0, 0, 8, 5, 1, 2, 1, 2, 0, 0, 0]
        told += [9, 0, 5, 1, 2, 1, 2, 0, 0, 0, 2, 0, -4, 1, 5, 7, 2, 2, 0, 1, 4, 9, 0, 7, 0, 49, 32, 70, 49, 64, 51]
        self.assertEqual(answers(calls), told)

    def test_each_call_as_the_last(self):
        for count in range(1, len(MIXED) + 1):
            calls = line_of([call for call, told in MIXED[:count]])
            self.assertEqual(answers(calls), line_of([told for call, told in MIXED[:count]]))

    def test_what_is_handed_in_is_as_it_was(self):
        for line in (LINE, MIXED_LINE):
            calls = list(line)
            answers(calls)
            self.assertEqual(calls, line)

    def test_nothing_is_kept(self):
        for line, told in ((LINE, TOLD), (MIXED_LINE, MIXED_TOLD)):
            calls = list(line)
            self.assertEqual(answers(calls), told)
            self.assertEqual(answers(calls), told)
        self.assertEqual(answers(member(8, 0, "0")), [1, 1])
        self.assertEqual(answers(member(7, 0, "0")), [1, 1])
        self.assertEqual(answers(box(1, *[0] * 8)), [1, 1])
        self.assertEqual(answers(unbox(1)), [1, -1])
        self.assertEqual(answers(members()), [1, 0])

    def test_what_is_given_back_is_the_callers(self):
        for line, told in ((LINE, TOLD), (MIXED_LINE, MIXED_TOLD)):
            first = answers(list(line))
            first.clear()
            self.assertEqual(answers(list(line)), told)

    def test_whole_numbers_in_a_list(self):
        for line in (LINE, MIXED_LINE):
            told = answers(list(line))
            self.assertIs(type(told), list)
            self.assertEqual({type(number) for number in told}, {int})

    def test_prints_nothing(self):
        with contextlib.redirect_stdout(io.StringIO()) as out, contextlib.redirect_stderr(io.StringIO()) as errors:
            answers(list(LINE))
            answers(list(MIXED_LINE))
        self.assertEqual((out.getvalue(), errors.getvalue()), ("", ""))

    def test_by_its_module(self):
        self.assertEqual(defaultfund.house.answers(calls=uncovered()), [6, 0, 0, 0, 0, 0, 0])

    def test_400_calls(self):
        self.assertEqual(answers(now(1, 2, 3, 4) * 400), [1, 0] * 400)
        self.assertEqual(answers(uncovered() * 400), [6, 0, 0, 0, 0, 0, 0] * 400)
        self.assertEqual(answers(members() * 400), [1, 0] * 400)
        self.assertEqual(answers(fund(3) * 400), [7, 0, 0, 0, 0, 0, 0, 0] * 400)

    def test_long_texts_in_a_long_list(self):
        text = " - ".join(["1"] * 1024)
        self.assertEqual(answers(member(1, 0, text) * 4), [1, -3] * 4)
