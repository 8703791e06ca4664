"""Promise 14: apart."""

from asking import FAR, PRICE_BOUND, Case, apart, ask, box, fund, margin, member, now, on_first

HUNDRED = [now(100, 0, 0, 0), on_first(5, 50, 150)]
BEFORE = HUNDRED + [
    member(1, 0, "1 F1@0"), member(3, 0, "-4 F1@0"), member(4, 10, "3 F1@0"), member(7, 0, "-2 F1@0"),
]


class Apart(Case):
    def check_apart(self, calls, *sums):
        """What apart answers for 0, 1, 2, 3 behind the calls."""
        told = ask(*calls, *[apart(k) for k in range(4)])[len(calls):]
        self.assertEqual(told, [[amount] for amount in sums])

    def test_each_k(self):
        self.check_apart(BEFORE, 0, 200, 340, 440)

    def test_fewer_members_than_k(self):
        self.check_apart([], 0, 0, 0, 0)
        self.check_apart(HUNDRED, 0, 0, 0, 0)
        self.check_apart(HUNDRED + [member(2, 1, "1 F1@0")], 0, 49, 49, 49)
        self.check_apart(HUNDRED + [member(2, 1, "1 F1@0"), member(1, 0, "-7 F1@0")], 0, 350, 399, 399)

    def test_members_who_need_nothing(self):
        covered = [member(1, 1000, "1 F1@0"), member(2, 0, "0"), member(8, 9, "7 - 2")]
        self.check_apart(HUNDRED + covered, 0, 0, 0, 0)
        # Who has margin to spare takes nothing off the others' needs.
        self.check_apart(HUNDRED + covered + [member(4, 0, "1 F1@0")], 0, 50, 50, 50)

    def test_no_boxes(self):
        self.check_apart(BEFORE[:1] + BEFORE[2:], 0, 0, 0, 0)

    def test_each_in_its_own_box_at_its_own_prices(self):
        calls = [now(100, 0, 0, 0), on_first(5, 100, 150), on_first(6, 50, 100)] + BEFORE[2:]
        self.check_apart(calls, 0, 200, 340, 440)
        self.assertEqual(ask(*calls, fund(2))[-1], [300, 2, 3, 7, 5, 150, 0, 0, 0])

    def test_as_much(self):
        self.check_apart(HUNDRED + [member(who, 0, "2 F1@0") for who in range(1, 9)], 0, 100, 200, 300)

    def test_with_margins_that_change(self):
        self.check_apart(BEFORE + [margin(3, 150), margin(4, 0)], 0, 150, 250, 300)

    def test_eight_members(self):
        quantities = (3, -8, 1, 6, -4, 7, 2, -5)
        members = [member(who, 0, f"{quantity} F1@0") for who, quantity in enumerate(quantities, start=1)]
        self.check_apart(HUNDRED + members, 0, 400, 750, 1050)

    def test_greatest_of_all(self):
        written = " + ".join(["1000000000 F1@1000000"] * 24)
        calls = [now(PRICE_BOUND, 0, 0, 0), box(1, *[0, PRICE_BOUND] * 4)]
        calls += [member(who, 0, written) for who in range(1, 9)]
        self.check_apart(calls, 0, 24 * 10 ** 15, 48 * 10 ** 15, 72 * 10 ** 15)

    def test_k_beyond_its_bounds(self):
        for k in (-1, 4, 8, FAR, -FAR):
            self.check_refused(BEFORE, apart(k), -1)
        self.assertEqual(ask(apart(-1), apart(4)), [[-1], [-1]])

    def test_changes_nothing(self):
        self.check_changes_nothing(BEFORE, apart(2), [340])
