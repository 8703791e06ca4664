"""How what legs on one underlying are worth runs with its price."""

from defaultfund.legs import CALL, CASH, FORWARD


class Curve:
    """How much more legs on one underlying are worth at each price than at the price 0.

    The slope is what a rise of the price by 1 brings ahead of all bends. A bend is a strike and by how much the
    slope rises there; bends come by rising strikes.
    """

    def __init__(self, slope, bends):
        self.slope = slope
        self.bends = bends


def slope_ahead(leg):
    """What a rise of the price by 1 brings to the leg below its strike."""
    if leg.kind == FORWARD:
        return leg.quantity
    if leg.kind == CALL:
        return 0
    return -leg.quantity


def curve_of(legs):
    """The curve of legs that are all on one underlying.

    A call's slope goes from 0 to its quantity, a put's from less its quantity to 0: both rise by the quantity.
    """
    slope = sum([slope_ahead(leg) for leg in legs])
    return Curve(slope, sorted([(leg.strike, leg.quantity) for leg in legs if leg.kind != FORWARD]))


def curves_of(book):
    """The curve of each underlying in order; cash is on none."""
    own = [[], [], [], []]
    for leg in book:
        if leg.kind != CASH:
            own[leg.underlying - 1].append(leg)
    return [curve_of(legs) for legs in own]


def join_curves(curves):
    """The curve of all the legs that these are the curves of."""
    bends = []
    for curve in curves:
        bends.extend(curve.bends)
    return Curve(sum([curve.slope for curve in curves]), sorted(bends))


def worst_price(curve, least, greatest):
    """The least worth over that at the price 0, from the least to the greatest price, and the least price with it.

    The worth runs straight between bends, so the price is a bend or one of the two ends.
    """
    slope = curve.slope
    gain = slope * least
    for strike, change in curve.bends:
        if strike > least:
            break
        slope += change
        gain += change * (least - strike)
    worst = (gain, least)
    price = least
    for strike, change in [bend for bend in curve.bends if least < bend[0] < greatest] + [(greatest, 0)]:
        gain += slope * (strike - price)
        slope += change
        price = strike
        if gain < worst[0]:
            worst = (gain, price)
    return worst
