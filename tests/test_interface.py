"""The interface: the whole lists handed in and given back."""

import contextlib
import io
import unittest

import defaultfund.house
from defaultfund.house import answers
from asking import box, leave, line_of, margin, member, now, trade, unbox, uncovered

LINE = line_of([
    uncovered(), now(100, 20, 0, 0), member(3, 10, "-3 F1@100 + 2 C1@110 - 40"), member(5, 0, "0"),
    box(9, 90, 130, 10, 20, 0, 5, 7, 7), uncovered(3), now(1, 2, 3), trade(3, 5, "4 F2@1"), uncovered(3, 5),
    uncovered(5), member(1, 0, "2000000000 F1@1"), margin(5, 6), uncovered(5), uncovered(5, 3), leave(3), unbox(9),
    unbox(9), uncovered(5),
])
TOLD = [
    6, 0, 0, 0, 0, 0, 0,
    1, 0,
    1, 1,
    1, 2,
    1, 1,
    6, 40, 9, 130, 10, 0, 7,
    1, -2,
    1, 0,
    6, 40, 9, 130, 10, 0, 7,
    6, 0, 0, 0, 0, 0, 0,
    1, -1011,
    1, 0,
    6, 0, 0, 0, 0, 0, 0,
    1, -1,
    1, 1,
    1, 0,
    1, -1,
    6, 0, 0, 0, 0, 0, 0,
]


class Interface(unittest.TestCase):
    def test_the_whole_list(self):
        self.assertEqual(answers(list(LINE)), TOLD)

    def test_in_numbers(self):
        calls = [0, 4, 7, 0, 0, 0, 1, 2, 0, 6, 49, 32, 70, 49, 64, 51, 5, 1, 8, 2, 9, 0, 0, 0, 0, 0, 0, 7, 1, 2]
        self.assertEqual(answers(calls), [1, 0, 1, 1, 1, 1, 6, 5, 1, 2, 0, 0, 0])

    def test_what_is_handed_in_is_as_it_was(self):
        calls = list(LINE)
        answers(calls)
        self.assertEqual(calls, LINE)

    def test_nothing_is_kept(self):
        calls = list(LINE)
        self.assertEqual(answers(calls), TOLD)
        self.assertEqual(answers(calls), TOLD)
        self.assertEqual(answers(member(8, 0, "0")), [1, 1])
        self.assertEqual(answers(member(7, 0, "0")), [1, 1])
        self.assertEqual(answers(box(1, *[0] * 8)), [1, 1])
        self.assertEqual(answers(unbox(1)), [1, -1])

    def test_what_is_given_back_is_the_callers(self):
        first = answers(list(LINE))
        first.clear()
        self.assertEqual(answers(list(LINE)), TOLD)

    def test_whole_numbers_in_a_list(self):
        told = answers(list(LINE))
        self.assertIs(type(told), list)
        self.assertEqual({type(number) for number in told}, {int})

    def test_prints_nothing(self):
        with contextlib.redirect_stdout(io.StringIO()) as out, contextlib.redirect_stderr(io.StringIO()) as errors:
            answers(list(LINE))
        self.assertEqual((out.getvalue(), errors.getvalue()), ("", ""))

    def test_by_its_module(self):
        self.assertEqual(defaultfund.house.answers(calls=uncovered()), [6, 0, 0, 0, 0, 0, 0])

    def test_400_calls(self):
        self.assertEqual(answers(now(1, 2, 3, 4) * 400), [1, 0] * 400)
        self.assertEqual(answers(uncovered() * 400), [6, 0, 0, 0, 0, 0, 0] * 400)

    def test_long_texts_in_a_long_list(self):
        text = " - ".join(["1"] * 1024)
        self.assertEqual(answers(member(1, 0, text) * 4), [1, -3] * 4)
