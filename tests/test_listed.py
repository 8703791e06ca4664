"""Promise 15: members."""

from asking import MARGIN_BOUND, Case, ask, leave, margin, member, members, now, trade

LEGS = " + ".join(["1 F1@0"] * 24)
BEFORE = [member(6, 5, "1 + 2"), member(1, 0, "0"), member(8, MARGIN_BOUND, LEGS), member(3, 9, "-7 C2@1")]


class Members(Case):
    def test_none(self):
        self.assertEqual(ask(members()), [[0]])
        self.assertEqual(ask(member(4, 1, "1"), leave(4), members())[-1], [0])
        self.assertEqual(ask(member(9, 1, "1"), members()), [[-1], [0]])

    def test_by_rising_numbers(self):
        told = ask(*BEFORE, members())[-1]
        self.assertEqual(told, [4, 1, 0, 0, 3, 9, 1, 6, 5, 2, 8, MARGIN_BOUND, 24])

    def test_all_eight(self):
        for order in ((8, 7, 6, 5, 4, 3, 2, 1), (5, 1, 8, 2, 7, 3, 6, 4)):
            told = ask(*[member(who, 10 * who, "1") for who in order], members())[-1]
            self.assertEqual(told, [8] + [number for who in range(1, 9) for number in (who, 10 * who, 1)])

    def test_behind_other_calls(self):
        told = ask(*BEFORE, margin(6, 77), members(), trade(1, 6, "1 F1@1 - 1"), members(), leave(6), members())
        self.assertEqual(told[-5], [4, 1, 0, 0, 3, 9, 1, 6, 77, 2, 8, MARGIN_BOUND, 24])
        self.assertEqual(told[-3], [4, 1, 0, 2, 3, 9, 1, 6, 77, 4, 8, MARGIN_BOUND, 24])
        self.assertEqual(told[-1], [3, 1, 0, 2, 3, 9, 1, 8, MARGIN_BOUND, 24])

    def test_in_the_place_of_another(self):
        self.assertEqual(ask(*BEFORE[:2], member(6, 4, "0"), members())[-1], [2, 1, 0, 0, 6, 4, 0])

    def test_nothing_stands_behind_its_number(self):
        self.assertEqual(ask(*BEFORE[:2], members(), members(), now(1, 2, 3, 4), members())[2:], [
            [2, 1, 0, 0, 6, 5, 2], [2, 1, 0, 0, 6, 5, 2], [0], [2, 1, 0, 0, 6, 5, 2],
        ])

    def test_changes_nothing(self):
        self.check_changes_nothing(BEFORE[:2], members(), [2, 1, 0, 0, 6, 5, 2])
