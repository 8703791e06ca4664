"""Promises 2 to 4: member, leave, margin."""

from asking import FAR, MARGIN_BOUND, NO_NEED, Case, ask, leave, margin, member, now, on_first, uncovered

BEFORE = [now(9, 0, 0, 0), on_first(3, 0, 20), member(2, 5, "4 F1@1"), member(7, 1, "-2 C1@3 + 6")]


def legs(count):
    return " + ".join(["1 F1@0"] * count)


class Member(Case):
    def test_answers_how_many(self):
        told = ask(*[member(who, 0, "0") for who in (8, 1, 5, 2, 3, 7, 4, 6)])
        self.assertEqual(told, [[1], [2], [3], [4], [5], [6], [7], [8]])

    def test_has_that_margin_and_book(self):
        told = ask(*BEFORE, uncovered(2), uncovered(7), uncovered(2, 7))
        self.assertEqual(told[-3:], [[31, 3, 0, 0, 0, 0], [21, 3, 20, 0, 0, 0], [18, 3, 0, 0, 0, 0]])

    def test_in_the_place_of_another(self):
        told = ask(*BEFORE, member(2, 3, "-1 F1@0"), uncovered(2), margin(2, 0), uncovered(7))
        self.assertEqual(told[-4:], [[2], [8, 3, 20, 0, 0, 0], [3], [21, 3, 20, 0, 0, 0]])

    def test_bounds_of_who(self):
        self.assertEqual(ask(member(1, 0, "0"), member(8, 0, "0")), [[1], [2]])
        for who in (0, 9, -1, -FAR, FAR):
            self.check_refused(BEFORE, member(who, 0, "0"), -1)

    def test_bounds_of_margin(self):
        told = ask(member(1, 0, "0"), member(2, MARGIN_BOUND, "0"), margin(1, 0), margin(2, 0))
        self.assertEqual(told, [[1], [2], [0], [MARGIN_BOUND]])
        for wrong in (-1, MARGIN_BOUND + 1, -FAR, FAR):
            self.check_refused(BEFORE, member(2, wrong, "0"), -2)
            self.check_refused(BEFORE, member(1, wrong, "0"), -2)

    def test_wrong_text(self):
        self.check_refused(BEFORE, member(2, 0, "1 + x"), -1004)
        self.check_refused(BEFORE, member(1, 0, ""), -1000)

    def test_24_and_25_legs(self):
        told = ask(now(9, 0, 0, 0), on_first(3, 0, 20), member(1, 0, legs(24)), uncovered(1))
        self.assertEqual(told[-2:], [[1], [216, 3, 0, 0, 0, 0]])
        self.check_refused(BEFORE, member(2, 0, legs(25)), -3)
        self.check_refused(BEFORE, member(1, 0, " - ".join(["1"] * 1024)), -3)

    def test_refusals_in_order(self):
        self.check_refused(BEFORE, member(0, -1, "x"), -1)
        self.check_refused(BEFORE, member(9, -1, legs(25)), -1)
        self.check_refused(BEFORE, member(1, -1, "x"), -2)
        self.check_refused(BEFORE, member(1, MARGIN_BOUND + 1, legs(25)), -2)
        self.check_refused(BEFORE, member(1, 0, legs(25) + "x"), -1000 - len(legs(25)))


class Leave(Case):
    def test_answers_how_many_are_left(self):
        told = ask(*BEFORE, leave(2), leave(7))
        self.assertEqual(told[-2:], [[1], [0]])

    def test_the_member_is_gone(self):
        told = ask(*BEFORE, leave(2), uncovered(2), leave(2), margin(2, 0), uncovered(7))
        self.assertEqual(told[-5:], [[1], [-1], [-1], [-1], [21, 3, 20, 0, 0, 0]])

    def test_comes_back_new(self):
        told = ask(*BEFORE, leave(2), member(2, 4, "0"), uncovered(2), margin(2, 0))
        self.assertEqual(told[-4:], [[1], [2], NO_NEED, [4]])

    def test_no_such_member(self):
        for who in (1, 3, 8, 0, 9, -2, -FAR, FAR):
            self.check_refused(BEFORE, leave(who), -1)


class Margin(Case):
    def test_answers_the_margin_before(self):
        told = ask(*BEFORE, margin(2, 8), margin(2, 0), margin(2, 30), margin(7, 2))
        self.assertEqual(told[-4:], [[5], [8], [0], [1]])

    def test_holds_from_now_on(self):
        told = ask(*BEFORE, margin(2, 8), uncovered(2), margin(2, 35), uncovered(2), margin(2, 36), uncovered(2))
        self.assertEqual(told[-5:], [[28, 3, 0, 0, 0, 0], [8], [1, 3, 0, 0, 0, 0], [35], NO_NEED])

    def test_no_such_member(self):
        for who in (1, 3, 8, 0, 9, -2, -FAR, FAR):
            self.check_refused(BEFORE, margin(who, 4), -1)

    def test_bounds(self):
        told = ask(*BEFORE, margin(2, MARGIN_BOUND), margin(2, 0), margin(2, 1))
        self.assertEqual(told[-3:], [[5], [MARGIN_BOUND], [0]])
        for wrong in (-1, MARGIN_BOUND + 1, -FAR, FAR):
            self.check_refused(BEFORE, margin(2, wrong), -2)

    def test_refusals_in_order(self):
        self.check_refused(BEFORE, margin(1, -1), -1)
        self.check_refused(BEFORE, margin(9, MARGIN_BOUND + 1), -1)
