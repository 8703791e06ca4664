"""Promises 6 and 7: box and unbox."""

from asking import FAR, KEY_BOUND, NO_NEED, PRICE_BOUND, Case, ask, box, member, now, on_first, unbox, uncovered

MEMBER = [now(50, 50, 50, 50), member(1, 0, "1 F1@0 + 10 F2@0 + 100 F3@0 + 1000 F4@0")]
ROW = (10, 20, 30, 30, 0, 5, 7, 9)
BEFORE = MEMBER + [box(3, *ROW), box(1, 1, 2, 3, 4, 5, 6, 7, 8)]
SIX = MEMBER + [on_first(k, 50 - k, 50) for k in (6, 1, 5, 2, 4, 3)]


class Box(Case):
    def test_answers_how_many(self):
        self.assertEqual(ask(*SIX)[2:], [[1], [2], [3], [4], [5], [6]])

    def test_least_and_greatest_of_each_underlying(self):
        told = ask(*MEMBER, box(3, *ROW), uncovered(1), member(1, 0, "-1 F1@0 - 10 F2@0 - 100 F3@0 - 1000 F4@0"))
        self.assertEqual(told[3], [40 + 200 + 5000 + 43000, 3, 10, 30, 0, 7])
        told = ask(now(0, 0, 0, 0), member(1, 0, "-1 F1@0 - 10 F2@0 - 100 F3@0 - 1000 F4@0"), box(3, *ROW), uncovered(1))
        self.assertEqual(told[-1], [20 + 300 + 500 + 9000, 3, 20, 30, 5, 9])

    def test_in_the_place_of_one_of_that_key(self):
        told = ask(*BEFORE, box(1, 50, 50, 50, 50, 50, 50, 49, 49), unbox(3), uncovered(1))
        self.assertEqual(told[-3:], [[2], [1], [1000, 1, 50, 50, 50, 49]])

    def test_in_the_place_of_the_sixth(self):
        whole = (50, 60, 50, 60, 50, 60, 50, 60)
        told = ask(*SIX, *[box(k, *whole) for k in (1, 2, 3, 4, 5, 6)], uncovered(1))
        self.assertEqual(told[-7:], [[6]] * 6 + [NO_NEED])

    def test_a_seventh(self):
        self.check_refused(SIX, on_first(7, 0, 50), -3)
        self.check_refused(SIX, on_first(KEY_BOUND, 0, 50), -3)

    def test_a_seventh_when_one_is_gone(self):
        told = ask(*SIX, unbox(4), on_first(7, 0, 50), on_first(4, 0, 50))
        self.assertEqual(told[-3:], [[5], [6], [-3]])

    def test_bounds_of_the_key(self):
        told = ask(*MEMBER, box(KEY_BOUND, *ROW), uncovered(1), box(1, *ROW), uncovered(1))
        need = [40 + 200 + 5000 + 43000]
        self.assertEqual(told[2:], [[1], need + [KEY_BOUND, 10, 30, 0, 7], [2], need + [1, 10, 30, 0, 7]])
        for k in (0, -1, KEY_BOUND + 1, -FAR, FAR):
            self.check_refused(BEFORE, box(k, *ROW), -1)

    def test_bounds_of_the_prices(self):
        for row in ([0] * 8, [PRICE_BOUND] * 8, [0, PRICE_BOUND] * 4):
            self.assertEqual(ask(box(1, *row)), [[1]])
        for at in range(8):
            for wrong in (-1, PRICE_BOUND + 1, -FAR, FAR):
                row = [0, PRICE_BOUND] * 4
                row[at] = wrong
                self.check_refused(BEFORE, box(1, *row), -2)

    def test_least_above_greatest(self):
        for at in (0, 2, 4, 6):
            row = [5] * 8
            row[at] = 6
            self.check_refused(BEFORE, box(3, *row), -2)
            row[at + 1] = 6
            self.assertEqual(ask(box(3, *row)), [[1]])

    def test_an_underlyings_greatest_may_be_above_the_nexts_least(self):
        self.assertEqual(ask(box(1, 8, 9, 6, 7, 4, 5, 2, 3)), [[1]])

    def test_too_few_or_too_many(self):
        for count in (0, 1, 4, 6, 7, 9, 10, 16):
            self.check_refused(BEFORE, box(3, *[5] * count), -2)

    def test_refusals_in_order(self):
        self.check_refused(SIX, box(0, 1), -1)
        self.check_refused(SIX, box(KEY_BOUND + 1, *ROW), -1)
        self.check_refused(SIX, box(7, 1), -2)


class Unbox(Case):
    def test_answers_how_many_are_left(self):
        self.assertEqual(ask(*SIX, *[unbox(k) for k in (2, 6, 1, 5, 4, 3)])[-6:], [[5], [4], [3], [2], [1], [0]])

    def test_the_box_is_gone(self):
        told = ask(*SIX, uncovered(1), unbox(6), uncovered(1), unbox(6), uncovered(1))
        both = [10 * 50 + 100 * 50 + 1000 * 50]
        need = [6 + both[0], 6, 44, 0, 0, 0]
        then = [5 + both[0], 5, 45, 0, 0, 0]
        self.assertEqual(told[-5:], [need, [5], then, [-1], then])

    def test_none_of_that_key(self):
        for k in (2, 4, 0, -3, KEY_BOUND, KEY_BOUND + 1, -FAR, FAR):
            self.check_refused(BEFORE, unbox(k), -1)
