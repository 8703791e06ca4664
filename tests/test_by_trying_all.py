"""What is answered against a reckoning that tries all four prices of small boxes, as the document's words say it."""

import itertools
import random

from asking import (
    NO_FUND, NO_NEED, Case, apart, ask, box, bytes_of, enough, fund, iftrade, loss, margin, member, members, now, text,
    trade, uncovered, without,
)


def text_of(legs):
    if not legs:
        return "0"
    written = ""
    for letter, quantity, underlying, strike in legs:
        sign = (" - " if quantity < 0 else " + ") if written else ("-" if quantity < 0 else "")
        written += f"{sign}{abs(quantity)}" + (f" {letter}{underlying}@{strike}" if letter else "")
    return written


def worth(legs, prices):
    total = 0
    for letter, quantity, underlying, strike in legs:
        price = prices[underlying - 1]
        one = {"": 1, "F": price - strike, "C": max(0, price - strike), "P": max(0, strike - price)}[letter]
        total += quantity * one
    return total


def opposite(legs):
    return [(letter, -quantity, underlying, strike) for letter, quantity, underlying, strike in legs]


class House:
    """Books and margins by member, boxes by key, the prices now."""

    def __init__(self, books, margins, boxes, prices_now):
        self.books = books
        self.margins = margins
        self.boxes = boxes
        self.prices_now = prices_now
        self.tried = {}

    def loss(self, chosen, prices):
        legs = [leg for who in chosen for leg in self.books[who]]
        return worth(legs, self.prices_now) - worth(legs, prices) - sum(self.margins[who] for who in chosen)

    def losses(self, who, key):
        """What the member loses at all four prices in the box, in their order."""
        if (who, key) not in self.tried:
            self.tried[who, key] = [self.loss([who], prices) for prices in self.prices_in(key)]
        return self.tried[who, key]

    def prices_in(self, key):
        row = self.boxes[key]
        return list(itertools.product(*[range(row[at], row[at + 1] + 1) for at in (0, 2, 4, 6)]))

    def need(self, chosen):
        """The need in all, key and worst prices, by going through all four prices of each box."""
        needs = []
        for key in self.boxes:
            prices_in = self.prices_in(key)
            together = [0] * len(prices_in)
            for who in chosen:
                together = [so_far + more for so_far, more in zip(together, self.losses(who, key), strict=True)]
            most = max(together)
            worst = [prices for prices, lost in zip(prices_in, together, strict=True) if lost == most]
            needs.append((-most, key, [min(prices[place] for prices in worst) for place in range(4)]))
        if not needs or min(needs)[0] >= 0:
            return NO_NEED
        most, key, worst = min(needs)
        return [-most, key] + worst

    def fund(self, k):
        sets = [chosen for count in range(1, k + 1) for chosen in itertools.combinations(sorted(self.books), count)]
        needs = [self.need(chosen) for chosen in sets]
        most = max([need[0] for need in needs], default=0)
        if most == 0:
            return NO_FUND
        chosen, need = [(chosen, need) for chosen, need in zip(sets, needs, strict=True) if need[0] == most][0]
        return [most, len(chosen), *chosen] + need[1:]

    def without(self, who):
        books = {other: self.books[other] for other in self.books if other != who}
        return House(books, self.margins, self.boxes, self.prices_now)

    def traded(self, a, b, legs):
        books = dict(self.books)
        books[a] = books[a] + legs
        books[b] = books[b] + opposite(legs)
        return House(books, self.margins, self.boxes, self.prices_now)


class ByTryingAll(Case):
    def some_legs(self, chance):
        return [
            (chance.choice(["", "F", "C", "P", "C", "P"]), chance.choice([-3, -2, -1, 1, 2, 3]),
             chance.randint(1, 4), chance.randint(0, 9))
            for leg in range(chance.choice([0, 1, 3, 6, 12]))
        ]

    def some_box(self, chance):
        row = []
        for underlying in range(4):
            least = chance.randint(0, 8)
            row += [least, least + chance.randint(0, 3)]
        return row

    def some_house(self, chance, count):
        # Books and boxes are drawn from few, so that sets and boxes often need as much.
        few_books = [self.some_legs(chance) for book in range(3)]
        few_boxes = [self.some_box(chance) for row in range(2)]
        books = {who: chance.choice(few_books) for who in chance.sample(range(1, 9), count)}
        margins = {who: chance.choice([0, 0, 1, 5, 20]) for who in books}
        keys = chance.sample(range(1, 20), chance.choice([0, 1, 2, 3, 3, 3]))
        boxes = {key: chance.choice(few_boxes) for key in keys}
        return House(books, margins, boxes, [chance.randint(0, 9) for underlying in range(4)])

    def calls_to_make(self, house, a, b, legs):
        """The calls that bring about the house behind that trade."""
        calls = [member(who, 77, text_of(house.books[who])) for who in house.books] + [now(*house.prices_now)]
        calls += [box(key, *row) for key, row in house.boxes.items()] + [trade(a, b, text_of(legs))]
        return calls + [margin(who, house.margins[who]) for who in house.books]

    def questions(self, house, chance):
        """Calls that tell something of the house, each with what it answers."""
        asked = []
        for count in range(4):
            for chosen in itertools.combinations(sorted(house.books), count):
                asked.append((uncovered(*chosen), house.need(chosen)))
                prices = [chance.randint(0, 12) for underlying in range(4)]
                asked.append((loss(chosen, prices), [0, house.loss(chosen, prices)]))
        a, b = chance.sample(sorted(house.books), 2)
        legs = self.some_legs(chance)
        alone = sorted([house.need([who])[0] for who in house.books], reverse=True)
        for k in range(4):
            whole = house.fund(k)
            asked.append((fund(k), whole))
            asked.append((enough(k, whole[0]), [1]))
            if whole[0]:
                asked.append((enough(k, whole[0] - 1), [0] + whole))
            asked += [(without(k, who), house.without(who).fund(k)) for who in house.books]
            asked.append((apart(k), [sum(alone[:k])]))
            asked.append((iftrade(k, a, b, text_of(legs)), self.told_if_traded(house, k, a, b, legs)))
        asked += [(text(who), [0] + bytes_of(text_of(book))) for who, book in house.books.items()]
        listed = [(who, house.margins[who], len(house.books[who])) for who in sorted(house.books)]
        asked.append((members(), [len(listed)] + [number for row in listed for number in row]))
        return asked

    def told_if_traded(self, house, k, a, b, legs):
        if max(len(house.books[a]), len(house.books[b])) + len(legs) > 24:
            return [-3]
        return house.traded(a, b, legs).fund(k)

    def check_house(self, chance):
        before = self.some_house(chance, chance.randint(2, 5))
        a, b = chance.sample(sorted(before.books), 2)
        legs = self.some_legs(chance)
        made = self.calls_to_make(before, a, b, legs)
        asked = self.questions(before.traded(a, b, legs), chance)
        chance.shuffle(asked)
        told = ask(*made, *[call for call, answer in asked])[len(made):]
        for (call, answer), row in zip(asked, told, strict=True):
            self.assertEqual(row, answer, (made, call))

    def test_small_houses(self):
        for seed in range(60):
            with self.subTest(seed=seed):
                self.check_house(random.Random(seed))

    def check_fund_of_eight(self, chance):
        before = self.some_house(chance, 8)
        made = self.calls_to_make(before, 6, 2, [("F", 1, 3, 5)])
        house = before.traded(6, 2, [("F", 1, 3, 5)])
        told = ask(*made, *[fund(k) for k in range(4)])[len(made):]
        self.assertEqual(told, [house.fund(k) for k in range(4)], made)

    def test_eight_members(self):
        for seed in range(20):
            with self.subTest(seed=seed):
                self.check_fund_of_eight(random.Random(seed))
