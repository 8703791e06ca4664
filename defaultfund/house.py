"""Answers the calls on one object."""

from defaultfund.calls import House, drop_box, drop_member, make_trade, put_box, put_member, set_margin, set_now
from defaultfund.questions import (
    tell_apart, tell_enough, tell_fund, tell_if_trade, tell_loss, tell_members, tell_text, tell_uncovered, tell_without,
)

# Of each call, in the order of the calls' numbers: how many whole numbers it has, and how many rows behind them.
FORMS = (
    (0, 1), (2, 1), (1, 0), (2, 0), (2, 1), (1, 1), (1, 0), (0, 1),
    (1, 0), (2, 0), (3, 1), (2, 0), (0, 2), (1, 0), (0, 0), (1, 0),
)
FIRST_QUESTION = 7


def cut_calls(calls):
    """The calls one by one, each as its number, its whole numbers and its rows."""
    cut = []
    at = 0
    while at < len(calls):
        call = calls[at]
        form = FORMS[call]
        behind = at + 1 + form[0]
        numbers = calls[at + 1:behind]
        rows = []
        while len(rows) < form[1]:
            first = behind + 1
            behind = first + calls[behind]
            rows.append(calls[first:behind])
        cut.append((call, numbers, rows))
        at = behind
    return cut


def change(house, call, numbers, rows):
    """What one of the calls that change the house answers."""
    if call == 0:
        return set_now(house, rows[0])
    if call == 1:
        return put_member(house, numbers[0], numbers[1], rows[0])
    if call == 2:
        return drop_member(house, numbers[0])
    if call == 3:
        return set_margin(house, numbers[0], numbers[1])
    if call == 4:
        return make_trade(house, numbers[0], numbers[1], rows[0])
    if call == 5:
        return put_box(house, numbers[0], rows[0])
    return drop_box(house, numbers[0])


def tell(house, call, numbers, rows):
    """What one of the calls that leave the house as it is answers."""
    if call == 7:
        return tell_uncovered(house, rows[0])
    if call == 8:
        return tell_fund(house, numbers[0])
    if call == 9:
        return tell_without(house, numbers[0], numbers[1])
    if call == 10:
        return tell_if_trade(house, numbers[0], numbers[1], numbers[2], rows[0])
    if call == 11:
        return tell_enough(house, numbers[0], numbers[1])
    if call == 12:
        return tell_loss(house, rows[0], rows[1])
    if call == 13:
        return tell_apart(house, numbers[0])
    if call == 14:
        return tell_members(house)
    return tell_text(house, numbers[0])


def answer(house, call, numbers, rows):
    """What one call on the house answers."""
    if call < FIRST_QUESTION:
        return change(house, call, numbers, rows)
    return tell(house, call, numbers, rows)


def answers(calls):
    """What each of the calls on one new object answers, with how many numbers it answers in front."""
    house = House()
    told = []
    for call, numbers, rows in cut_calls(calls):
        row = answer(house, call, numbers, rows)
        told.append(len(row))
        told.extend(row)
    return told
