"""Needs against a reckoning that tries all four prices of small boxes, as the document's words say it."""

import itertools
import random

from asking import NO_NEED, Case, ask, box, margin, member, now, trade, uncovered


def text_of(legs):
    if not legs:
        return "0"
    text = ""
    for letter, quantity, underlying, strike in legs:
        sign = (" - " if quantity < 0 else " + ") if text else ("-" if quantity < 0 else "")
        text += f"{sign}{abs(quantity)}" + (f" {letter}{underlying}@{strike}" if letter else "")
    return text


def worth(legs, prices):
    total = 0
    for letter, quantity, underlying, strike in legs:
        price = prices[underlying - 1]
        one = {"": 1, "F": price - strike, "C": max(0, price - strike), "P": max(0, strike - price)}[letter]
        total += quantity * one
    return total


def need_of(legs, margins, prices_now, boxes):
    """The need in all, key and worst prices, by going through all four prices of each box."""
    needs = []
    for key, row in boxes.items():
        ranges = [range(row[at], row[at + 1] + 1) for at in (0, 2, 4, 6)]
        losses = {}
        for prices in itertools.product(*ranges):
            loss = worth(legs, prices_now) - worth(legs, prices) - margins
            losses.setdefault(loss, []).append(prices)
        most = max(losses)
        worst = [min(prices[place] for prices in losses[most]) for place in range(4)]
        needs.append((-most, key, worst))
    if not needs or min(needs)[0] >= 0:
        return NO_NEED
    most, key, worst = min(needs)
    return [-most, key] + worst


class ByTryingAll(Case):
    def some_legs(self, chance):
        return [
            (chance.choice(["", "F", "C", "P", "C", "P"]), chance.choice([-3, -2, -1, 1, 2, 3]),
             chance.randint(1, 4), chance.randint(0, 9))
            for leg in range(chance.choice([0, 1, 3, 6, 12]))
        ]

    def some_box(self, chance):
        row = []
        for underlying in range(4):
            least = chance.randint(0, 8)
            row += [least, least + chance.randint(0, 3)]
        return row

    def check_house(self, chance):
        books = {who: self.some_legs(chance) for who in chance.sample(range(1, 9), 4)}
        margins = {who: chance.choice([0, 0, 1, 5, 20]) for who in books}
        boxes = {key: self.some_box(chance) for key in chance.sample(range(1, 20), chance.randint(0, 3))}
        prices_now = [chance.randint(0, 9) for underlying in range(4)]
        a, b = chance.sample(sorted(books), 2)
        traded = self.some_legs(chance)
        calls = [member(who, 77, text_of(books[who])) for who in books] + [now(*prices_now)]
        calls += [box(key, *row) for key, row in boxes.items()] + [trade(a, b, text_of(traded))]
        calls += [margin(who, margins[who]) for who in books]
        books[a] = books[a] + traded
        books[b] = books[b] + [(letter, -quantity, u, strike) for letter, quantity, u, strike in traded]
        sets = [chosen for count in range(5) for chosen in itertools.combinations(sorted(books), count)]
        told = ask(*calls, *[uncovered(*chosen) for chosen in sets])[len(calls):]
        for chosen, answer in zip(sets, told, strict=True):
            legs = [leg for who in chosen for leg in books[who]]
            all_margins = sum(margins[who] for who in chosen)
            self.assertEqual(answer, need_of(legs, all_margins, prices_now, boxes), (calls, chosen))

    def test_small_houses(self):
        for seed in range(40):
            with self.subTest(seed=seed):
                self.check_house(random.Random(seed))
