"""What sets of members lose and need, the fund for so many of them, who needs it and where."""

from defaultfund.curves import curves_of, join_curves, worst_price
from defaultfund.legs import worth

ZERO_PRICES = (0, 0, 0, 0)


class Stand:
    """What a member or a set of members brings into a reckoning.

    All is measured from what they lose at prices of 0: how much less they lose elsewhere is told by the curves,
    one for each underlying, and cash needs none.
    """

    def __init__(self, loss_at_zeros, curves):
        self.loss_at_zeros = loss_at_zeros
        self.curves = curves


def loss_at(house, numbers, prices):
    """What the set of members loses at four prices."""
    loss = 0
    for who in numbers:
        book = house.books[who]
        loss += worth(book, house.prices_now) - worth(book, prices) - house.margins[who]
    return loss


def stand_of(house, who):
    """The stand of one member."""
    return Stand(loss_at(house, [who], ZERO_PRICES), curves_of(house.books[who]))


def join_stands(stands):
    """The stand of a set of members by those of its members."""
    curves = []
    for at in range(4):
        curves.append(join_curves([stand.curves[at] for stand in stands]))
    return Stand(sum([stand.loss_at_zeros for stand in stands]), curves)


def need_in_box(stand, box):
    """What the stand's members need in the box, then their worst prices there.

    Each leg hangs on one underlying's price at most, so each price is the worst by itself.
    """
    need = stand.loss_at_zeros
    prices = []
    for at, curve in enumerate(stand.curves):
        worst = worst_price(curve, box[2 * at], box[2 * at + 1])
        need -= worst[0]
        prices.append(worst[1])
    return [need] + prices


def need_in_all(stands, boxes):
    """What the members with these stands need in all, a box's key or 0, four prices."""
    together = join_stands(stands)
    most = [0, 0, 0, 0, 0, 0]
    for key in sorted(boxes):
        need = need_in_box(together, boxes[key])
        # Only a greater need counts, so of equal ones the least key stays.
        if need[0] > most[0]:
            most = [need[0], key] + need[1:]
    return most


def need_of_set(house, numbers):
    """What the set of members needs in all, a box's key or 0, four prices."""
    return need_in_all([stand_of(house, who) for who in numbers], house.boxes)


def sets_up_to(members, k):
    """The sets of 1 to k of the members: of fewer first, then by their least member, the next one and so on.

    The members come by rising numbers.
    """
    sets = []
    largest = [[]]
    for size in range(k):
        larger = []
        for chosen in largest:
            larger.extend([chosen + [who] for who in members if chosen == [] or who > chosen[-1]])
        sets.extend(larger)
        largest = larger
    return sets


def fund_for(house, k):
    """The fund for k as a need: the fund, how many members need it, they, a box's key, four prices."""
    stands = {}
    for who in sorted(house.books):
        stands[who] = stand_of(house, who)
    most = [0, 0, 0, 0, 0, 0]
    needy = []
    for numbers in sets_up_to(list(stands), k):
        need = need_in_all([stands[who] for who in numbers], house.boxes)
        # Only a greater need counts, so of sets that need as much the first stays.
        if need[0] > most[0]:
            most = need
            needy = numbers
    return [most[0], len(needy)] + needy + most[1:]
