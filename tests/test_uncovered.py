"""Promise 8: uncovered; what sets of members lose and need, and where."""

from asking import FAR, NO_NEED, PRICE_BOUND, Case, ask, box, leave, member, now, on_first, point, uncovered

HUNDRED = [now(100, 0, 0, 0), on_first(5, 50, 150)]


class Uncovered(Case):
    def check_need(self, calls, numbers, need):
        self.assertEqual(ask(*calls, uncovered(*numbers))[-1], need)

    def test_the_empty_set(self):
        self.assertEqual(ask(uncovered()), [NO_NEED])
        self.check_need(HUNDRED + [member(1, 0, "9 F1@0")], [], NO_NEED)

    def test_no_boxes(self):
        self.check_need([now(100, 0, 0, 0), member(1, 0, "9 F1@0")], [1], NO_NEED)

    def test_margin_that_covers(self):
        for margin, need in ((0, [100]), (99, [1]), (100, [0]), (101, [0]), (10 ** 15, [0])):
            where = [5, 50, 0, 0, 0] if need[0] else [0, 0, 0, 0, 0]
            self.check_need(HUNDRED + [member(1, margin, "2 F1@0")], [1], need + where)

    def test_who_only_gains(self):
        calls = [now(100, 0, 0, 0), on_first(5, 120, 150), member(1, 0, "2 F1@0")]
        self.check_need(calls, [1], NO_NEED)

    def test_cash_is_worth_the_same_everywhere(self):
        self.check_need(HUNDRED + [member(1, 0, "-1000000000000000 + 7")], [1], NO_NEED)
        self.check_need(HUNDRED + [member(1, 0, "-9 + 1 F1@0")], [1], [50, 5, 50, 0, 0, 0])

    def test_one_gains_where_another_loses(self):
        members = [member(2, 0, "3 F1@100"), member(3, 0, "-2 F1@0"), member(6, 10, "-2 F1@90")]
        self.check_need(HUNDRED + members, [2], [150, 5, 50, 0, 0, 0])
        self.check_need(HUNDRED + members, [3], [100, 5, 150, 0, 0, 0])
        self.check_need(HUNDRED + members, [2, 3], [50, 5, 50, 0, 0, 0])
        self.check_need(HUNDRED + members, [2, 6], [40, 5, 50, 0, 0, 0])
        self.check_need(HUNDRED + members, [3, 6], [190, 5, 150, 0, 0, 0])
        self.check_need(HUNDRED + members, [2, 3, 6], [40, 5, 150, 0, 0, 0])

    def test_margins_count_together(self):
        members = [member(1, 70, "1 F1@0"), member(2, 20, "1 F1@0")]
        self.check_need(HUNDRED + members, [1], NO_NEED)
        self.check_need(HUNDRED + members, [2], [30, 5, 50, 0, 0, 0])
        self.check_need(HUNDRED + members, [1, 2], [10, 5, 50, 0, 0, 0])

    def test_all_eight(self):
        members = [member(who, who, f"{who} F1@{who}") for who in range(1, 9)]
        self.check_need(HUNDRED + members, range(1, 9), [36 * 50 - 36, 5, 50, 0, 0, 0])

    def test_worst_within_the_box(self):
        # A straddle loses the most at its strike, which lies strictly between the ends.
        self.check_need(HUNDRED + [member(1, 0, "1 C1@80 + 1 P1@80")], [1], [20, 5, 80, 0, 0, 0])
        self.check_need(HUNDRED + [member(1, 0, "-1 C1@80 - 1 P1@80")], [1], [50, 5, 150, 0, 0, 0])

    def test_the_least_of_worst_prices(self):
        self.check_need(HUNDRED + [member(1, 0, "1 C1@60")], [1], [40, 5, 50, 0, 0, 0])
        self.check_need(HUNDRED + [member(1, 0, "1 C1@90 + 1 P1@70")], [1], [10, 5, 70, 0, 0, 0])
        self.check_need(HUNDRED + [member(1, 0, "-1 P1@120")], [1], [50, 5, 50, 0, 0, 0])
        self.check_need(HUNDRED + [member(1, 0, "1 P1@120")], [1], [20, 5, 120, 0, 0, 0])
        self.check_need(HUNDRED + [member(1, 0, "-1 C1@100 - 1 P1@100")], [1], [50, 5, 50, 0, 0, 0])

    def test_two_valleys_as_deep(self):
        text = "2 P1@70 + 2 C1@70 - 4 C1@90 + 4 C1@110"
        told = ask(now(90, 0, 0, 0), on_first(5, 60, 140), member(1, 0, text), uncovered(1))
        self.assertEqual(told[-1], [40, 5, 70, 0, 0, 0])
        told = ask(now(90, 0, 0, 0), on_first(5, 71, 140), member(1, 0, text), uncovered(1))
        self.assertEqual(told[-1], [40, 5, 110, 0, 0, 0])

    def test_prices_no_leg_is_on_are_the_least(self):
        calls = [now(9, 9, 9, 9), box(2, 4, 8, 3, 5, 6, 6, 0, 9), member(1, 0, "1 F3@0")]
        self.check_need(calls, [1], [3, 2, 4, 3, 6, 0])

    def test_each_underlying_by_itself(self):
        calls = [now(50, 50, 50, 50), box(2, 10, 90, 20, 80, 30, 70, 40, 60)]
        text = "1 F1@0 - 2 F2@0 + 4 C3@45 + 8 P4@55"
        self.check_need(calls + [member(1, 0, text)], [1], [40 + 60 + 20 + 40, 2, 10, 80, 30, 55])

    def test_strikes_at_and_beyond_the_ends(self):
        for strike, need, price in ((49, 50, 50), (50, 50, 50), (51, 49, 50), (150, 0, 0), (151, 0, 0), (100, 0, 0)):
            where = [5, price, 0, 0, 0] if need else [0, 0, 0, 0, 0]
            self.check_need(HUNDRED + [member(1, 0, f"1 C1@{strike}")], [1], [need] + where)
        for strike, need, price in ((49, 0, 0), (50, 0, 0), (101, 1, 101), (149, 49, 149), (150, 50, 150), (151, 50, 150)):
            where = [5, price, 0, 0, 0] if need else [0, 0, 0, 0, 0]
            self.check_need(HUNDRED + [member(1, 0, f"1 P1@{strike}")], [1], [need] + where)

    def test_the_prices_now_may_lie_outside_the_boxes(self):
        self.check_need([now(100, 0, 0, 0), on_first(1, 10, 20), member(1, 0, "1 F1@0")], [1], [90, 1, 10, 0, 0, 0])

    def test_the_box_that_needs_most(self):
        boxes = [on_first(9, 30, 200), on_first(2, 60, 300), on_first(4, 40, 100)]
        calls = [now(100, 0, 0, 0)] + boxes
        self.check_need(calls + [member(1, 0, "1 F1@0")], [1], [70, 9, 30, 0, 0, 0])
        self.check_need(calls + [member(1, 0, "-1 F1@0")], [1], [200, 2, 300, 0, 0, 0])

    def test_two_boxes_that_need_as_much(self):
        boxes = [on_first(9, 50, 150), on_first(3, 50, 120), on_first(7, 20, 30), on_first(4, 20, 90)]
        calls = [now(100, 0, 0, 0)] + boxes + [member(1, 0, "1 F1@0")]
        self.check_need(calls, [1], [80, 4, 20, 0, 0, 0])
        self.check_need(calls[:3] + calls[-1:], [1], [50, 3, 50, 0, 0, 0])
        boxes = [point(1000000000, 1, 0, 0, 0), point(999999999, 0, 1, 0, 0)]
        calls = [now(1, 1, 0, 0)] + boxes + [member(1, 0, "1 F1@0 + 1 F2@0")]
        self.check_need(calls, [1], [1, 999999999, 0, 1, 0, 0])

    def test_greatest_of_all(self):
        text = " + ".join(["1000000000 F1@1000000"] * 24)
        calls = [now(PRICE_BOUND, 0, 0, 0), box(1, *[0, PRICE_BOUND] * 4)]
        calls += [member(who, 0, text) for who in range(1, 9)]
        self.check_need(calls, range(1, 9), [192 * 10 ** 15, 1, 0, 0, 0, 0])

    def test_no_members_by_rising_numbers(self):
        calls = HUNDRED + [member(1, 0, "1 F1@0"), member(3, 0, "2 F1@0"), member(8, 0, "4 F1@0")]
        rows = ([2], [0], [9], [-1], [FAR], [-FAR], [1, 1], [3, 1], [1, 3, 3], [8, 3], [1, 2], [1, 2, 3], [0, 1])
        for numbers in rows + ([1, 3, 8, 9], [1] * 16, list(range(16)), [1, 8, 3]):
            self.check_refused(calls, uncovered(*numbers), -1)

    def test_who_left_is_no_member(self):
        calls = HUNDRED + [member(1, 0, "1 F1@0"), member(3, 0, "2 F1@0"), leave(3)]
        self.assertEqual(ask(*calls, uncovered(1, 3), uncovered(1))[-2:], [[-1], [50, 5, 50, 0, 0, 0]])

    def test_changes_nothing(self):
        calls = HUNDRED + [member(1, 0, "1 F1@0"), member(3, 0, "-2 F1@0")]
        told = ask(*calls, *[uncovered(1), uncovered(1, 3), uncovered(3)] * 2)
        self.assertEqual(told[4:7], told[7:])
        self.assertEqual(told[4:7], [[50, 5, 50, 0, 0, 0], [50, 5, 150, 0, 0, 0], [100, 5, 150, 0, 0, 0]])
