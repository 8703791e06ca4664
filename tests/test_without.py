"""Promise 10: without."""

from asking import FAR, NO_FUND, Case, ask, fund, leave, member, now, on_first, without

BEFORE = [
    now(100, 0, 0, 0), on_first(5, 50, 150), member(7, 0, "-1 F1@0"), member(2, 10, "4 F1@0"), member(4, 0, "3 F1@0"),
]
AT_50 = [5, 50, 0, 0, 0]
AT_150 = [5, 150, 0, 0, 0]


class Without(Case):
    def test_the_member_is_out_of_the_reckoning(self):
        told = ask(*BEFORE, *[without(k, who) for who in (2, 4, 7) for k in range(4)])[len(BEFORE):]
        self.assertEqual(told[:4], [NO_FUND] + [[150, 1, 4] + AT_50] * 3)
        self.assertEqual(told[4:8], [NO_FUND] + [[190, 1, 2] + AT_50] * 3)
        self.assertEqual(told[8:], [NO_FUND, [190, 1, 2] + AT_50] + [[340, 2, 2, 4] + AT_50] * 2)

    def test_as_if_the_member_had_left(self):
        for who in (2, 4, 7):
            for k in range(4):
                self.assertEqual(ask(*BEFORE, without(k, who))[-1], ask(*BEFORE, leave(who), fund(k))[-1])

    def test_the_member_is_still_there(self):
        self.check_changes_nothing(BEFORE, without(3, 2), [150, 1, 4] + AT_50)
        told = ask(*BEFORE, without(3, 2), fund(1), without(3, 2), leave(2))
        self.assertEqual(told[-3:], [[190, 1, 2] + AT_50, [150, 1, 4] + AT_50, [2]])

    def test_of_two_where_one_gains(self):
        calls = BEFORE[:2] + [member(1, 0, "1 F1@0"), member(2, 0, "-2 F1@0")]
        told = ask(*calls, fund(2), without(2, 2), without(2, 1))
        self.assertEqual(told[-3:], [[100, 1, 2] + AT_150, [50, 1, 1] + AT_50, [100, 1, 2] + AT_150])

    def test_the_only_member(self):
        self.assertEqual(ask(*BEFORE[:3], without(3, 7), without(0, 7))[-2:], [NO_FUND, NO_FUND])

    def test_who_is_no_member(self):
        for who in (1, 3, 8, 0, 9, -2, FAR, -FAR):
            self.check_refused(BEFORE, without(2, who), -2)
        self.assertEqual(ask(*BEFORE, leave(4), without(0, 4))[-1], [-2])
        self.assertEqual(ask(without(0, 1)), [[-2]])

    def test_k_beyond_its_bounds(self):
        for k in (-1, 4, FAR, -FAR):
            self.check_refused(BEFORE, without(k, 2), -1)

    def test_refusals_in_order(self):
        for k in (-1, 4):
            self.check_refused(BEFORE, without(k, 1), -1)
            self.check_refused(BEFORE, without(k, FAR), -1)
