"""Promise 12: enough."""

from asking import FAR, MARGIN_BOUND, NO_FUND, PRICE_BOUND, Case, ask, enough, fund, member, now, on_first

BEFORE = [now(100, 0, 0, 0), on_first(5, 50, 150), member(1, 0, "2 F1@0"), member(6, 20, "3 F1@0")]
ONE = [130, 1, 6, 5, 50, 0, 0, 0]
TWO = [230, 2, 1, 6, 5, 50, 0, 0, 0]


class Enough(Case):
    def test_at_the_fund_below_and_above(self):
        for k, whole in ((1, ONE), (2, TWO), (3, TWO)):
            told = ask(*BEFORE, *[enough(k, whole[0] + more) for more in (-1, 0, 1)])
            self.assertEqual(told[len(BEFORE):], [[0] + whole, [1], [1]])

    def test_bounds_of_f(self):
        told = ask(*BEFORE, enough(1, 0), enough(3, 0), enough(0, 0), enough(3, MARGIN_BOUND))
        self.assertEqual(told[len(BEFORE):], [[0] + ONE, [0] + TWO, [1], [1]])
        for f in (-1, MARGIN_BOUND + 1, -FAR, FAR):
            self.check_refused(BEFORE, enough(2, f), -2)
            self.assertEqual(ask(enough(0, f)), [[-2]])

    def test_a_fund_at_and_beyond_the_greatest_f(self):
        calls = [now(PRICE_BOUND, 0, 0, 0), on_first(1, 0, PRICE_BOUND), member(2, 0, "1000000000 F1@0")]
        self.assertEqual(ask(*calls, enough(1, MARGIN_BOUND), enough(1, MARGIN_BOUND - 1))[-2:], [
            [1], [0, MARGIN_BOUND, 1, 2, 1, 0, 0, 0, 0],
        ])
        calls[-1] = member(2, 0, "1000000000 F1@0 + 1 F1@0")
        self.assertEqual(ask(*calls, enough(1, MARGIN_BOUND))[-1], [0, MARGIN_BOUND + PRICE_BOUND, 1, 2, 1, 0, 0, 0, 0])

    def test_nothing_needed(self):
        self.assertEqual(ask(enough(0, 0), enough(3, 0), fund(3)), [[1], [1], NO_FUND])
        self.assertEqual(ask(*BEFORE[:2], enough(3, 0))[-1], [1])

    def test_what_fund_tells(self):
        for k in range(4):
            told = ask(*BEFORE, enough(k, 100), fund(k))
            self.assertEqual(told[-2], [0] + told[-1] if told[-1][0] > 100 else [1])

    def test_k_beyond_its_bounds(self):
        for k in (-1, 4, FAR, -FAR):
            self.check_refused(BEFORE, enough(k, 5), -1)

    def test_refusals_in_order(self):
        for k in (-1, 4):
            for f in (-1, MARGIN_BOUND + 1):
                self.check_refused(BEFORE, enough(k, f), -1)

    def test_changes_nothing(self):
        self.check_changes_nothing(BEFORE, enough(2, 229), [0] + TWO)
        self.check_changes_nothing(BEFORE, enough(2, 230), [1])
