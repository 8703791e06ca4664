"""Promise 1: now."""

from asking import FAR, PRICE_BOUND, Case, ask, member, now, point, uncovered


class Now(Case):
    before = [now(5, 6, 7, 8), member(1, 0, "1 F1@0 + 10 F2@0 + 100 F3@0 + 1000 F4@0"), point(1, 0, 0, 0, 0)]

    def test_new_prices_are_zeros(self):
        told = ask(member(1, 0, "-1 F1@0 - 10 F2@0 - 100 F3@0 - 1000 F4@0"), point(1, 1, 2, 3, 4), uncovered(1))
        self.assertEqual(told[-1], [4321, 1, 1, 2, 3, 4])

    def test_answers_zero(self):
        self.assertEqual(ask(now(1, 2, 3, 4)), [[0]])

    def test_each_price_is_its_underlyings(self):
        self.assertEqual(ask(*self.before, uncovered(1))[-1], [8765, 1, 0, 0, 0, 0])

    def test_the_last_ones_hold(self):
        told = ask(*self.before, now(1, 1, 1, 1), uncovered(1), now(0, 0, 0, 0), uncovered(1))
        self.assertEqual(told[-4:], [[0], [1111, 1, 0, 0, 0, 0], [0], [0, 0, 0, 0, 0, 0]])

    def test_bounds(self):
        for prices in ([0, 0, 0, 0], [PRICE_BOUND] * 4, [0, PRICE_BOUND, 0, PRICE_BOUND]):
            self.assertEqual(ask(now(*prices)), [[0]])

    def test_greatest_prices(self):
        told = ask(*self.before, now(*[PRICE_BOUND] * 4), uncovered(1))
        self.assertEqual(told[-1], [1111 * PRICE_BOUND, 1, 0, 0, 0, 0])

    def test_beyond_the_bounds(self):
        for at in range(4):
            for wrong in (-1, PRICE_BOUND + 1, -FAR, FAR):
                prices = [1, 2, 3, 4]
                prices[at] = wrong
                self.check_refused(self.before, now(*prices), -2)

    def test_too_few_or_too_many(self):
        for count in (0, 1, 2, 3, 5, 8, 16):
            self.check_refused(self.before, now(*[1] * count), -2)
