"""The calls that tell something of the object and leave it as it is."""

from defaultfund.calls import are_prices, copy_of, drop_member, make_trade
from defaultfund.losses import fund_for, loss_at, need_of_set
from defaultfund.texts import write_book

MOST_DEFAULTS = 3
MOST_FUND = 1000000000000000


def are_rising_members(house, numbers):
    """Whether these are members by rising numbers."""
    before = 0
    for who in numbers:
        if who <= before or who not in house.books:
            return False
        before = who
    return True


def are_defaults(k):
    """Whether a fund may be asked for so many members at once."""
    return 0 <= k <= MOST_DEFAULTS


def tell_uncovered(house, numbers):
    """The call uncovered."""
    if not are_rising_members(house, numbers):
        return [-1]
    return need_of_set(house, numbers)


def tell_fund(house, k):
    """The call fund."""
    if not are_defaults(k):
        return [-1]
    return fund_for(house, k)


def tell_without(house, k, who):
    """The call without."""
    if not are_defaults(k):
        return [-1]
    if who not in house.books:
        return [-2]
    left = copy_of(house)
    drop_member(left, who)
    return fund_for(left, k)


def tell_if_trade(house, k, a, b, text):
    """The call iftrade."""
    if not are_defaults(k):
        return [-1]
    traded = copy_of(house)
    made = make_trade(traded, a, b, text)
    if made[0] < 0:
        return made
    return fund_for(traded, k)


def tell_enough(house, k, fund):
    """The call enough."""
    if not are_defaults(k):
        return [-1]
    if fund < 0 or fund > MOST_FUND:
        return [-2]
    need = fund_for(house, k)
    if need[0] <= fund:
        return [1]
    return [0] + need


def tell_loss(house, numbers, prices):
    """The call loss."""
    if not are_rising_members(house, numbers):
        return [-1]
    if not are_prices(prices, 4):
        return [-2]
    return [0, loss_at(house, numbers, prices)]


def tell_apart(house, k):
    """The call apart."""
    if not are_defaults(k):
        return [-1]
    needs = [need_of_set(house, [who])[0] for who in house.books]
    return [sum(sorted(needs, reverse=True)[:k])]


def tell_members(house):
    """The call members."""
    told = [len(house.books)]
    for who in sorted(house.books):
        told.extend([who, house.margins[who], len(house.books[who])])
    return told


def tell_text(house, who):
    """The call text."""
    if who not in house.books:
        return [-1]
    return [0] + write_book(house.books[who])
