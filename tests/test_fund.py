"""Promise 9: fund; how much, who needs it, and where."""

import itertools

from asking import (
    FAR, NO_FUND, PRICE_BOUND, Case, ask, box, fund, leave, margin, member, now, on_first, point, trade, unbox,
    uncovered,
)

# In this box one forward bought loses 50 at most, at 50, and one sold loses 50 at most, at 150.
HUNDRED = [now(100, 0, 0, 0), on_first(5, 50, 150)]
AT_50 = [5, 50, 0, 0, 0]
AT_150 = [5, 150, 0, 0, 0]


def forwards(*quantities):
    """Members 1, 2, 3 .. with no margin and so many forwards each."""
    return [member(who, 0, f"{quantity} F1@0") for who, quantity in enumerate(quantities, start=1)]


class Fund(Case):
    def check_fund(self, calls, *rows):
        """What fund answers for 0, 1, 2 and so on behind the calls."""
        told = ask(*calls, *[fund(k) for k in range(len(rows))])[len(calls):]
        self.assertEqual(told, list(rows))

    def test_each_k(self):
        calls = HUNDRED + forwards(1, 4, 2, 3)
        self.check_fund(calls, NO_FUND, [200, 1, 2] + AT_50, [350, 2, 2, 4] + AT_50, [450, 3, 2, 3, 4] + AT_50)

    def test_k_beyond_its_bounds(self):
        for k in (-1, 4, 8, -FAR, FAR):
            self.check_refused(HUNDRED + forwards(1, 4), fund(k), -1)
        self.assertEqual(ask(fund(-1), fund(4), fund(3)), [[-1], [-1], NO_FUND])

    def test_no_members(self):
        self.check_fund([], NO_FUND, NO_FUND, NO_FUND, NO_FUND)
        self.check_fund(HUNDRED, NO_FUND, NO_FUND, NO_FUND, NO_FUND)
        self.check_fund(HUNDRED + forwards(5) + [leave(1)], NO_FUND, NO_FUND, NO_FUND, NO_FUND)

    def test_no_boxes(self):
        self.check_fund(HUNDRED[:1] + forwards(5, 6, -7), NO_FUND, NO_FUND, NO_FUND, NO_FUND)
        self.check_fund(HUNDRED + forwards(5, 6, -7) + [unbox(5)], NO_FUND, NO_FUND, NO_FUND, NO_FUND)

    def test_none_that_needs_anything(self):
        self.check_fund(HUNDRED + [member(1, 0, "0"), member(2, 0, "-9")], NO_FUND, NO_FUND, NO_FUND, NO_FUND)
        covered = [member(1, 50, "1 F1@0"), member(2, 151, "-3 F1@0"), member(3, 10 ** 15, "1 F1@0")]
        self.check_fund(HUNDRED + covered, NO_FUND, NO_FUND, NO_FUND, NO_FUND)
        gaining = [now(100, 0, 0, 0), on_first(5, 101, 150)] + forwards(1, 2, 3)
        self.check_fund(gaining, NO_FUND, NO_FUND, NO_FUND, NO_FUND)

    def test_fewer_members_than_k(self):
        self.check_fund(HUNDRED + forwards(3), NO_FUND, [150, 1, 1] + AT_50, [150, 1, 1] + AT_50, [150, 1, 1] + AT_50)
        self.check_fund(HUNDRED + forwards(3, 1), NO_FUND, [150, 1, 1] + AT_50, *[[200, 2, 1, 2] + AT_50] * 2)

    def test_two_who_need_more_together(self):
        # Alone the third needs the most, but where the other two lose it gains.
        self.check_fund(HUNDRED + forwards(2, 2, -3), NO_FUND, [150, 1, 3] + AT_150, [200, 2, 1, 2] + AT_50)

    def test_one_whose_gain_covers_anothers_loss(self):
        calls = HUNDRED + forwards(2, -2)
        self.check_fund(calls, NO_FUND, [100, 1, 1] + AT_50, [100, 1, 1] + AT_50, [100, 1, 1] + AT_50)
        self.assertEqual(ask(*calls, uncovered(1, 2))[-1], [0, 0, 0, 0, 0, 0])

    def test_lost_at_one_and_the_same_prices(self):
        calls = [now(100, 0, 0, 0), on_first(5, 70, 130), member(1, 0, "1 P1@130 + 1 C1@130")]
        calls.append(member(2, 0, "-1 C1@100"))
        self.check_fund(calls, NO_FUND, [30, 1, 1, 5, 130, 0, 0, 0], [60, 2, 1, 2, 5, 130, 0, 0, 0])
        # Here each loses as much as there, but at unlike prices, so that both together lose nothing.
        calls[-1] = member(2, 0, "1 C1@70")
        self.check_fund(calls, NO_FUND, [30, 1, 1, 5, 130, 0, 0, 0], [30, 1, 1, 5, 130, 0, 0, 0])

    def test_margins_that_just_cover(self):
        calls = HUNDRED + [member(1, 50, "1 F1@0"), member(2, 49, "1 F1@0"), member(3, 20, "-1 F1@0")]
        self.check_fund(calls[:-1], NO_FUND, [1, 1, 2] + AT_50, [1, 1, 2] + AT_50)
        self.check_fund(calls, NO_FUND, [30, 1, 3] + AT_150, [30, 1, 3] + AT_150)

    def test_margins_count(self):
        calls = HUNDRED + forwards(2, 2, 2) + [margin(1, 10), margin(2, 30), margin(3, 20)]
        self.check_fund(calls, NO_FUND, [90, 1, 1] + AT_50, [170, 2, 1, 3] + AT_50, [240, 3, 1, 2, 3] + AT_50)

    def test_as_much_with_fewer_members(self):
        # The first has nothing and the second does: both together need no more.
        calls = HUNDRED + [member(1, 0, "0"), member(2, 0, "3 F1@0"), member(3, 0, "7")]
        self.check_fund(calls, NO_FUND, *[[150, 1, 2] + AT_50] * 3)
        calls = HUNDRED + [member(1, 50, "1 F1@0"), member(4, 0, "1 F1@0"), member(5, 0, "1 F1@0")]
        self.check_fund(calls, NO_FUND, [50, 1, 4] + AT_50, [100, 2, 4, 5] + AT_50, [100, 2, 4, 5] + AT_50)

    def test_as_much_with_one_member(self):
        calls = HUNDRED + [member(who, 0, "2 F1@0") for who in (7, 3, 5)]
        self.check_fund(calls, NO_FUND, [100, 1, 3] + AT_50, [200, 2, 3, 5] + AT_50, [300, 3, 3, 5, 7] + AT_50)

    def test_as_much_at_unlike_prices(self):
        self.check_fund(HUNDRED + forwards(-2, 2), NO_FUND, [100, 1, 1] + AT_150)
        self.check_fund(HUNDRED + forwards(2, -2), NO_FUND, [100, 1, 1] + AT_50)

    def test_as_much_with_two_members(self):
        # 1 and 4 need as much as 2 and 3, all other pairs less: the least member of the first pair is less.
        calls = HUNDRED + forwards(2, -2, -1, 1)
        self.check_fund(calls, NO_FUND, [100, 1, 1] + AT_50, [150, 2, 1, 4] + AT_50)
        calls = HUNDRED + forwards(-2, 2, 1, -1)[::-1]
        self.check_fund(calls, NO_FUND, [100, 1, 1] + AT_150, [150, 2, 1, 4] + AT_150)

    def test_as_much_with_the_same_least_member(self):
        # All pairs but 1 2 and 3 4 need as much.
        pairs = [member(1, 0, "4 F1@0"), member(4, 0, "1 F2@0"), member(2, 0, "-4 F1@0"), member(3, 0, "-1 F2@0")]
        calls = [now(100, 100, 0, 0), box(5, 50, 150, 50, 150, 0, 0, 0, 0)] + pairs
        self.check_fund(calls, NO_FUND, [200, 1, 1, 5, 50, 50, 0, 0], [250, 2, 1, 3, 5, 50, 150, 0, 0])

    def test_as_much_with_three_members(self):
        # 1, 5 and 6 buy what 2, 3 and 4 sell; all other threes have somebody who gains.
        calls = HUNDRED + forwards(3, -3, -2, -1, 2, 1)
        self.check_fund(calls, NO_FUND, [150, 1, 1] + AT_50, [250, 2, 1, 5] + AT_50, [300, 3, 1, 5, 6] + AT_50)
        calls = HUNDRED + forwards(1, 2, 3, -3, -2, -1)
        self.check_fund(calls, NO_FUND, [150, 1, 3] + AT_50, [250, 2, 2, 3] + AT_50, [300, 3, 1, 2, 3] + AT_50)

    def test_the_lesser_number_decides_before_the_greater(self):
        # 1 2 8 and 1 3 4 need as much, all other threes less.
        others = [member(2, 0, "1 F2@0"), member(8, 0, "1 F2@0"), member(3, 0, "-1 F2@0"), member(4, 0, "-1 F2@0")]
        calls = [now(100, 100, 0, 0), box(5, 50, 150, 50, 150, 0, 0, 0, 0), member(1, 0, "10 F1@0")] + others
        self.assertEqual(ask(*calls, fund(3))[-1], [600, 3, 1, 2, 8, 5, 50, 50, 0, 0])
        calls = HUNDRED + [member(who, 0, "1 F1@0") for who in (8, 4, 3, 2, 1)]
        self.check_fund(calls, NO_FUND, [50, 1, 1] + AT_50, [100, 2, 1, 2] + AT_50, [150, 3, 1, 2, 3] + AT_50)

    def test_two_boxes_that_need_as_much(self):
        boxes = [on_first(9, 50, 150), on_first(3, 50, 120), on_first(7, 60, 150), on_first(4, 20, 90)]
        calls = [now(100, 0, 0, 0)] + boxes[:3] + forwards(1, 2)
        self.check_fund(calls, NO_FUND, [100, 1, 2, 3, 50, 0, 0, 0], [150, 2, 1, 2, 3, 50, 0, 0, 0])
        calls = [now(100, 0, 0, 0)] + boxes[:3] + forwards(-1, -2)
        self.check_fund(calls, NO_FUND, [100, 1, 2, 7, 150, 0, 0, 0], [150, 2, 1, 2, 7, 150, 0, 0, 0])
        calls = [now(100, 0, 0, 0)] + boxes + forwards(1, 2)
        self.check_fund(calls, NO_FUND, [160, 1, 2, 4, 20, 0, 0, 0], [240, 2, 1, 2, 4, 20, 0, 0, 0])

    def test_a_sets_own_box(self):
        # Each needs the most in a box of its own, both together in a third one.
        boxes = [point(1, 60, 100, 0, 0), point(2, 100, 60, 0, 0), point(3, 70, 70, 0, 0)]
        calls = [now(100, 100, 0, 0)] + boxes + [member(1, 0, "1 F1@0"), member(2, 0, "1 F2@0")]
        self.check_fund(calls, NO_FUND, [40, 1, 1, 1, 60, 100, 0, 0], [60, 2, 1, 2, 3, 70, 70, 0, 0])

    def test_the_least_of_worst_prices(self):
        calls = [now(100, 9, 9, 9), box(5, 50, 150, 3, 9, 4, 9, 5, 9)]
        self.check_fund(calls + [member(1, 0, "1 C1@90 + 1 P1@70")], NO_FUND, [10, 1, 1, 5, 70, 3, 4, 5])
        both = [member(1, 0, "1 C1@90"), member(2, 0, "1 P1@70 + 1 C1@110")]
        self.check_fund(calls + both, NO_FUND, [10, 1, 1, 5, 50, 3, 4, 5], [10, 1, 1, 5, 50, 3, 4, 5])
        both = [member(1, 0, "1 C1@90"), member(2, 0, "2 P1@70 + 1 C1@60")]
        self.check_fund(calls + both, NO_FUND, [30, 1, 2, 5, 70, 3, 4, 5], [40, 2, 1, 2, 5, 70, 3, 4, 5])

    def test_behind_a_trade(self):
        calls = HUNDRED + [member(1, 0, "0"), member(2, 0, "0"), member(3, 5, "1 F1@0"), trade(2, 1, "3 F1@7")]
        self.check_fund(calls, NO_FUND, [150, 1, 1] + AT_150, [195, 2, 2, 3] + AT_50, [195, 2, 2, 3] + AT_50)

    def test_eight_members(self):
        calls = HUNDRED + forwards(3, 8, 1, 6, 4, 7, 2, 5)
        self.check_fund(calls, NO_FUND, [400, 1, 2] + AT_50, [750, 2, 2, 6] + AT_50, [1050, 3, 2, 4, 6] + AT_50)
        calls = HUNDRED + forwards(3, -8, 1, 6, -4, 7, 2, -5)
        self.check_fund(calls, NO_FUND, [400, 1, 2] + AT_150, [650, 2, 2, 8] + AT_150, [850, 3, 2, 5, 8] + AT_150)

    def test_the_last_three_of_eight(self):
        calls = HUNDRED + forwards(1, 1, 1, 1, 1, 2, 2, 2)
        self.check_fund(calls, NO_FUND, [100, 1, 6] + AT_50, [200, 2, 6, 7] + AT_50, [300, 3, 6, 7, 8] + AT_50)

    def test_each_three_of_eight(self):
        for chosen in itertools.combinations(range(1, 9), 3):
            calls = HUNDRED + [member(who, 0, "2 F1@0" if who in chosen else "1 F1@0") for who in range(1, 9)]
            self.assertEqual(ask(*calls, fund(3))[-1], [300, 3, *chosen] + AT_50)

    def test_eight_full_books_in_six_boxes(self):
        calls = [now(500, 500, 500, 500)] + [box(k, *[10 * k, 1000 - k] * 4) for k in range(6, 0, -1)]
        for who in range(1, 9):
            legs = [f"{who + at} {'FCP'[at % 3]}{at % 4 + 1}@{(at * 97 + who * 130) % 1000}" for at in range(23)]
            signs = [" + " if at * who % 5 % 2 == 0 else " - " for at in range(23)]
            calls.append(member(who, who, "1" + "".join(sign + leg for sign, leg in zip(signs, legs, strict=True))))
        sets = [chosen for count in (1, 2, 3) for chosen in itertools.combinations(range(1, 9), count)]
        told = ask(*calls, *[uncovered(*chosen) for chosen in sets], *[fund(3)] * 100)[len(calls):]
        needs = told[:len(sets)]
        most = max(need[0] for need in needs)
        chosen, need = [(chosen, need) for chosen, need in zip(sets, needs, strict=True) if need[0] == most][0]
        self.assertEqual(told[len(sets):], [[most, len(chosen), *chosen] + need[1:]] * 100)

    def test_greatest_of_all(self):
        written = " + ".join(["1000000000 F1@1000000"] * 24)
        calls = [now(PRICE_BOUND, 0, 0, 0), box(1, *[0, PRICE_BOUND] * 4)]
        calls += [member(who, 0, written) for who in range(1, 9)]
        self.check_fund(
            calls, NO_FUND, [24 * 10 ** 15, 1, 1, 1, 0, 0, 0, 0], [48 * 10 ** 15, 2, 1, 2, 1, 0, 0, 0, 0],
            [72 * 10 ** 15, 3, 1, 2, 3, 1, 0, 0, 0, 0],
        )

    def test_changes_nothing(self):
        calls = HUNDRED + forwards(1, 4, -2)
        self.check_changes_nothing(calls, fund(3), [250, 2, 1, 2] + AT_50)
        self.assertEqual(ask(*calls, fund(2), fund(3), fund(2))[-3:], [[250, 2, 1, 2] + AT_50] * 3)
