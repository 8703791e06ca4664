"""Legs, of which books are rows, and what they are worth."""

MOST_PRICE = 1000000

CASH = 0
# The other kinds are the bytes of their letters, so that the letter in a text is the kind.
CALL = 67
FORWARD = 70
PUT = 80


class Leg:
    """A quantity of one kind; cash has the underlying 0 and the strike 0."""

    def __init__(self, kind, quantity, underlying, strike):
        self.kind = kind
        self.quantity = quantity
        self.underlying = underlying
        self.strike = strike


def opposite(leg):
    """The same leg with the opposite quantity."""
    return Leg(leg.kind, -leg.quantity, leg.underlying, leg.strike)


def worth_of_one(leg, prices):
    """What one of the leg's kind is worth."""
    if leg.kind == CASH:
        return 1
    price = prices[leg.underlying - 1]
    if leg.kind == FORWARD:
        return price - leg.strike
    if leg.kind == CALL:
        return max(price - leg.strike, 0)
    return max(leg.strike - price, 0)


def worth(legs, prices):
    """What the legs together are worth at four prices."""
    return sum([leg.quantity * worth_of_one(leg, prices) for leg in legs])
