"""Promise 11: iftrade."""

from asking import FAR, NO_FUND, Case, ask, fund, iftrade, member, members, now, on_first, text, trade

BEFORE = [now(100, 0, 0, 0), on_first(5, 50, 150), member(1, 0, "0"), member(4, 0, "1 F1@0"), member(8, 2, "1 F1@7")]
AT_50 = [5, 50, 0, 0, 0]
AT_150 = [5, 150, 0, 0, 0]


def cash(count):
    return " - ".join(["1"] * count)


class IfTrade(Case):
    def test_the_fund_behind_that_trade(self):
        told = ask(*BEFORE, *[iftrade(k, 1, 4, "3 F1@10") for k in range(4)])[len(BEFORE):]
        self.assertEqual(told, [NO_FUND, [150, 1, 1] + AT_50, [198, 2, 1, 8] + AT_50, [198, 2, 1, 8] + AT_50])
        told = ask(*BEFORE, *[iftrade(k, 4, 1, "3 F1@10") for k in range(4)])[len(BEFORE):]
        self.assertEqual(told, [NO_FUND, [200, 1, 4] + AT_50, [248, 2, 4, 8] + AT_50, [248, 2, 4, 8] + AT_50])

    def test_as_if_it_were_made(self):
        for a, b in ((1, 4), (4, 1), (8, 1), (4, 8)):
            for written in ("0", "5 F1@3", "-5 C1@60 + 7", "2 P1@120 - 9 F2@0 + 3 C1@140", cash(23)):
                for k in range(4):
                    told = ask(*BEFORE, iftrade(k, a, b, written), trade(a, b, written), fund(k))
                    self.assertEqual(told[-3], told[-1])

    def test_the_object_is_as_it_was(self):
        self.check_changes_nothing(BEFORE, iftrade(2, 4, 1, "3 F1@10"), [248, 2, 4, 8] + AT_50)
        told = ask(*BEFORE, iftrade(1, 4, 1, "3 F1@10"), fund(1), members(), text(1), text(4))
        self.assertEqual(told[-4:-2], [[50, 1, 4] + AT_50, [3, 1, 0, 0, 4, 0, 1, 8, 2, 1]])
        self.assertEqual(told[-2:], [[0, *b"0"], [0, *b"1 F1@0"]])

    def test_asked_again_and_again(self):
        told = ask(*BEFORE, *[iftrade(1, 1, 4, cash(24))] * 2, *[iftrade(1, 1, 8, cash(23))] * 30)
        self.assertEqual(told[-32:], [[-3]] * 2 + [[50, 1, 4] + AT_50] * 30)

    def test_the_empty_book(self):
        self.assertEqual(ask(*BEFORE, iftrade(1, 1, 8, "0"), iftrade(2, 1, 8, "0"))[-2:], [
            [50, 1, 4] + AT_50, [98, 2, 4, 8] + AT_50,
        ])

    def test_opposite_quantities(self):
        told = ask(*BEFORE, iftrade(1, 1, 4, "-9 F1@0"), iftrade(1, 4, 1, "9 F1@0"), iftrade(1, 4, 1, "-9 F1@0"))
        self.assertEqual(told[-3:], [[500, 1, 4] + AT_50, [500, 1, 4] + AT_50, [450, 1, 1] + AT_50])
        told = ask(*BEFORE, iftrade(1, 1, 8, "-9 F1@0"), iftrade(1, 8, 4, "-9 F1@0"))
        self.assertEqual(told[-2:], [[498, 1, 8] + AT_50, [500, 1, 4] + AT_50])
        told = ask(*BEFORE, iftrade(1, 8, 1, "-9 C1@100"))
        self.assertEqual(told[-1], [398, 1, 8] + AT_150)

    def test_k_beyond_its_bounds(self):
        for k in (-1, 4, FAR, -FAR):
            self.check_refused(BEFORE, iftrade(k, 1, 4, "1"), -1)

    def test_no_members_or_one_and_the_same(self):
        for a, b in ((1, 2), (2, 1), (2, 3), (1, 1), (2, 2), (0, 1), (1, 9), (-1, 1), (FAR, 1), (1, -FAR)):
            self.check_refused(BEFORE, iftrade(2, a, b, "1 F1@1"), -2)
            self.assertEqual(ask(*BEFORE, iftrade(0, a, b, "1 F1@1"))[-1], [-2])

    def test_wrong_text(self):
        self.check_refused(BEFORE, iftrade(2, 1, 4, "2000000000 F1@1"), -1011)
        self.check_refused(BEFORE, iftrade(0, 1, 4, ""), -1000)
        self.check_refused(BEFORE, iftrade(3, 1, 4, "-"), -1001)
        self.check_refused(BEFORE, iftrade(3, 1, 4, [255]), -1000)

    def test_24_and_25_legs(self):
        self.assertEqual(ask(*BEFORE, iftrade(0, 1, 4, cash(23)), iftrade(0, 4, 1, cash(23)))[-2:], [NO_FUND, NO_FUND])
        self.check_refused(BEFORE, iftrade(1, 1, 4, cash(24)), -3)
        self.check_refused(BEFORE, iftrade(1, 4, 1, cash(24)), -3)
        self.check_refused(BEFORE, iftrade(0, 8, 4, cash(25)), -3)

    def test_refusals_in_order(self):
        self.check_refused(BEFORE, iftrade(-1, 1, 1, "x"), -1)
        self.check_refused(BEFORE, iftrade(4, 1, 2, cash(25)), -1)
        self.check_refused(BEFORE, iftrade(4, 1, 4, "x"), -1)
        self.check_refused(BEFORE, iftrade(4, 1, 4, cash(25)), -1)
        self.check_refused(BEFORE, iftrade(3, 1, 1, "x"), -2)
        self.check_refused(BEFORE, iftrade(0, 1, 2, cash(25)), -2)
        self.check_refused(BEFORE, iftrade(3, 1, 4, cash(25) + " "), -1000 - len(cash(25)) - 1)
