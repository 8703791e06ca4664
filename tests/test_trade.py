"""Promise 5: trade."""

from asking import FAR, NO_NEED, Case, ask, box, leave, member, now, on_first, trade, uncovered

BEFORE = [now(50, 0, 0, 0), on_first(1, 0, 100), member(1, 0, "0"), member(4, 0, "0"), member(8, 2, "1 F1@7")]


def cash(count):
    return " - ".join(["1"] * count)


class Trade(Case):
    def test_one_has_the_legs_the_other_the_opposite(self):
        told = ask(*BEFORE, trade(4, 1, "3 F1@10"), uncovered(1), uncovered(4), uncovered(1, 4))
        self.assertEqual(told[-4:], [[0], [150, 1, 100, 0, 0, 0], [150, 1, 0, 0, 0, 0], NO_NEED])

    def test_all_kinds(self):
        prices = [now(50, 50, 50, 0), box(1, 0, 100, 0, 100, 0, 100, 0, 100)]
        told = ask(*prices, *BEFORE[2:], trade(1, 4, "1 F1@50 - 2 C2@50 + 4 P3@50 + 9"), uncovered(1), uncovered(4))
        self.assertEqual(told[-2:], [[150, 1, 0, 100, 50, 0], [250, 1, 100, 0, 0, 0]])

    def test_behind_the_legs_they_have(self):
        told = ask(*BEFORE, trade(8, 1, "1 F1@9"), trade(1, 8, "4 F1@0"), uncovered(8), uncovered(1))
        self.assertEqual(told[-4:], [[0], [0], [98, 1, 100, 0, 0, 0], [150, 1, 0, 0, 0, 0]])

    def test_there_and_back_is_nothing(self):
        text = "-5 F1@10 + 3 C1@60 + 7 P1@40"
        told = ask(*BEFORE, trade(1, 4, text), trade(4, 1, text), uncovered(1), uncovered(4))
        self.assertEqual(told[-4:], [[0], [0], NO_NEED, NO_NEED])

    def test_the_empty_book(self):
        told = ask(*BEFORE, trade(1, 8, "0"), uncovered(1), uncovered(8))
        self.assertEqual(told[-3:], [[0], NO_NEED, [48, 1, 0, 0, 0, 0]])

    def test_greatest_quantities(self):
        text = "1000000000000000 - 1000000000 F1@1000000"
        told = ask(*BEFORE, trade(1, 4, text), uncovered(1), uncovered(4))
        self.assertEqual(told[-2:], [[50 * 10 ** 9, 1, 100, 0, 0, 0], [50 * 10 ** 9, 1, 0, 0, 0, 0]])

    def test_no_members_or_one_and_the_same(self):
        for a, b in ((1, 2), (2, 1), (2, 3), (1, 1), (2, 2), (0, 1), (1, 9), (-1, 1), (FAR, 1), (1, -FAR)):
            self.check_refused(BEFORE, trade(a, b, "1 F1@1"), -2)

    def test_who_left_is_no_member(self):
        self.assertEqual(ask(*BEFORE, leave(4), trade(1, 4, "1"))[-1], [-2])

    def test_wrong_text(self):
        self.check_refused(BEFORE, trade(1, 4, "2000000000 F1@1"), -1011)
        self.check_refused(BEFORE, trade(1, 4, ""), -1000)
        self.check_refused(BEFORE, trade(1, 4, "-"), -1001)

    def test_24_and_25_legs(self):
        self.assertEqual(ask(*BEFORE, trade(1, 4, cash(24)), trade(4, 1, "0"))[-2:], [[0], [0]])
        self.assertEqual(ask(*BEFORE, trade(1, 8, cash(23)))[-1], [0])
        self.assertEqual(ask(*BEFORE, trade(8, 1, cash(23)))[-1], [0])
        self.check_refused(BEFORE, trade(1, 4, cash(25)), -3)
        self.check_refused(BEFORE, trade(1, 8, cash(24)), -3)
        self.check_refused(BEFORE, trade(8, 1, cash(24)), -3)
        self.check_refused(BEFORE + [trade(1, 4, cash(24))], trade(1, 8, "1 F1@0"), -3)
        self.check_refused(BEFORE + [trade(1, 4, cash(24))], trade(8, 4, "1 F1@0"), -3)

    def test_refused_legs_take_no_room(self):
        refused = [trade(1, 8, cash(24)), trade(8, 4, cash(24)), trade(1, 4, cash(25)), trade(1, 8, cash(20) + " ")]
        told = ask(*BEFORE, *refused, trade(1, 8, cash(23)), trade(4, 1, "1"), trade(4, 1, "1"))
        self.assertEqual(told[-3:], [[0], [0], [-3]])

    def test_refusals_in_order(self):
        self.check_refused(BEFORE, trade(1, 1, "x"), -2)
        self.check_refused(BEFORE, trade(1, 2, cash(25)), -2)
        self.check_refused(BEFORE, trade(1, 4, cash(25) + " "), -1000 - len(cash(25)) - 1)
