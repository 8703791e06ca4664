"""Promise 13: loss."""

from asking import FAR, PRICE_BOUND, Case, ask, leave, loss, margin, member, now, point, trade

BEFORE = [
    now(100, 20, 30, 40), member(5, 7, "2 F1@90 - 3"), member(2, 0, "-1 C2@15 + 4 P3@33"), member(8, 1, "-5 F4@0"),
]
NOW = (100, 20, 30, 40)


class Loss(Case):
    def check_loss(self, calls, members, prices, lost):
        self.assertEqual(ask(*calls, loss(members, prices))[-1], [0, lost])

    def test_the_empty_set(self):
        self.assertEqual(ask(loss([], [0, 0, 0, 0])), [[0, 0]])
        self.check_loss(BEFORE, [], (1, 2, 3, 4), 0)

    def test_each_member(self):
        self.check_loss(BEFORE, [5], (60, 0, 0, 0), 2 * 40 - 7)
        self.check_loss(BEFORE, [2], (0, 30, 31, 0), 10 + 4)
        self.check_loss(BEFORE, [8], (0, 0, 0, 50), 50 - 1)

    def test_together(self):
        self.check_loss(BEFORE, [2, 5], (60, 30, 31, 0), 14 + 73)
        self.check_loss(BEFORE, [2, 5, 8], (60, 30, 31, 50), 14 + 73 + 49)
        self.check_loss(BEFORE, [5, 8], (60, 30, 31, 30), 73 - 51)

    def test_who_gains(self):
        self.check_loss(BEFORE, [5], (150, 0, 0, 0), -100 - 7)
        self.check_loss(BEFORE, [2, 8], (0, 0, 0, 0), -5 - 120 - 200 - 1)
        self.check_loss(BEFORE, [8], (0, 0, 0, 39), -5 - 1)

    def test_at_the_prices_now_less_the_margins(self):
        for members, lost in (([2], 0), ([5], -7), ([8], -1), ([2, 5, 8], -8)):
            self.check_loss(BEFORE, members, NOW, lost)

    def test_cash_is_neither_lost_nor_gained(self):
        self.check_loss([now(1, 2, 3, 4), member(1, 0, "1000000000000000 - 5")], [1], (9, 9, 9, 9), 0)

    def test_boxes_do_not_matter(self):
        self.check_loss(BEFORE + [point(1, 1, 1, 1, 1)], [5], (60, 0, 0, 0), 73)

    def test_behind_other_calls(self):
        self.check_loss(BEFORE + [now(50, 0, 0, 0)], [5], (60, 0, 0, 0), -20 - 7)
        self.check_loss(BEFORE + [margin(5, 100)], [5], (60, 0, 0, 0), 80 - 100)
        self.check_loss(BEFORE + [trade(8, 5, "3 F1@1")], [5], (60, 0, 0, 0), 80 - 7 - 120)
        self.check_loss(BEFORE + [trade(8, 5, "3 F1@1")], [8], (60, 0, 0, 40), 120 - 1)

    def test_bounds_of_prices(self):
        self.check_loss(BEFORE, [5], (0, 0, 0, 0), 200 - 7)
        self.check_loss(BEFORE, [5], [PRICE_BOUND] * 4, -2 * (PRICE_BOUND - 100) - 7)
        for at in range(4):
            for wrong in (-1, PRICE_BOUND + 1, -FAR, FAR):
                prices = [1, 2, 3, 4]
                prices[at] = wrong
                self.check_refused(BEFORE, loss([2, 5], prices), -2)

    def test_too_few_or_too_many_prices(self):
        for count in (0, 1, 2, 3, 5, 8, 16):
            self.check_refused(BEFORE, loss([2, 5], [1] * count), -2)
            self.assertEqual(ask(loss([], [1] * count)), [[-2]])

    def test_no_members_by_rising_numbers(self):
        ones = ([1], [0], [9], [-5], [FAR], [-FAR])
        for members in ones + ([2, 2], [5, 2], [2, 5, 5], [2, 3, 5], [2, 8, 5], [2, 5, 8, 9], [2] * 16):
            self.check_refused(BEFORE, loss(members, NOW), -1)
        self.assertEqual(ask(*BEFORE, leave(5), loss([5], NOW), loss([2, 5], NOW))[-2:], [[-1], [-1]])

    def test_refusals_in_order(self):
        self.check_refused(BEFORE, loss([5, 2], [1, 2, 3]), -1)
        self.check_refused(BEFORE, loss([1], [1, 2, 3, -1]), -1)
        self.check_refused(BEFORE, loss([1], []), -1)

    def test_greatest_of_all(self):
        written = " + ".join(["1000000000 F1@1000000"] * 24)
        calls = [now(PRICE_BOUND, 0, 0, 0)] + [member(who, 0, written) for who in range(1, 9)]
        self.check_loss(calls, range(1, 9), (0, 0, 0, 0), 192 * 10 ** 15)
        self.check_loss([now(0, 0, 0, 0)] + calls[1:], range(1, 9), (PRICE_BOUND, 0, 0, 0), -192 * 10 ** 15)
        self.check_loss([member(1, 10 ** 15, "0"), member(2, 10 ** 15, "0")], [1, 2], (1, 2, 3, 4), -2 * 10 ** 15)

    def test_changes_nothing(self):
        self.check_changes_nothing(BEFORE + [point(1, 0, 50, 0, 90)], loss([2, 5], (60, 30, 31, 0)), [0, 87])
