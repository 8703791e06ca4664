"""What sets of members lose and need, and where."""

from defaultfund.legs import CALL, FORWARD, worth


def slope_above(leg, price):
    """How much more the leg is worth when its underlying's price rises by 1 from this one."""
    if leg.kind == FORWARD:
        return leg.quantity
    if leg.kind == CALL:
        return leg.quantity if price >= leg.strike else 0
    return -leg.quantity if price < leg.strike else 0


def bends_between(legs, least, greatest):
    """The strikes between the two prices at which the slope changes, rising, each with that change.

    A call's slope goes from 0 to its quantity, a put's from less its quantity to 0: both rise by the quantity.
    """
    options = [leg for leg in legs if leg.kind != FORWARD]
    return sorted([(leg.strike, leg.quantity) for leg in options if least < leg.strike < greatest])


def worst_price(legs, least, greatest):
    """The least price, from the least to the greatest, at which legs on one underlying are worth the least.

    The worth runs straight between bends, so the price is a bend or one of the two ends.
    """
    slope = sum([slope_above(leg, least) for leg in legs])
    worst = least
    price = least
    gained = 0
    least_gained = 0
    for strike, change in bends_between(legs, least, greatest) + [(greatest, 0)]:
        gained += slope * (strike - price)
        slope += change
        price = strike
        if gained < least_gained:
            least_gained = gained
            worst = price
    return worst


def worst_prices(legs, box):
    """The worst prices in the box of whoever has the legs.

    Each leg hangs on one underlying's price at most, so each price is the worst by itself.
    """
    prices = []
    for underlying in range(1, 5):
        own = [leg for leg in legs if leg.underlying == underlying]
        prices.append(worst_price(own, box[2 * underlying - 2], box[2 * underlying - 1]))
    return prices


def need_in_all(house, numbers):
    """What the set of members needs in all, a box's key or 0, four prices."""
    legs = []
    margins = 0
    for who in numbers:
        legs.extend(house.books[who])
        margins += house.margins[who]
    to_keep = worth(legs, house.prices_now) - margins
    most = [0, 0, 0, 0, 0, 0]
    for key in sorted(house.boxes):
        prices = worst_prices(legs, house.boxes[key])
        need = to_keep - worth(legs, prices)
        # Only a greater need counts, so of equal ones the least key stays.
        if need > most[0]:
            most = [need, key] + prices
    return most
