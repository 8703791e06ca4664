"""What the tests share: the calls as lists of numbers, and a way to ask them."""

import unittest

from defaultfund.house import answers

MARGIN_BOUND = 10 ** 15
PRICE_BOUND = 10 ** 6
KEY_BOUND = 10 ** 9
FAR = 10 ** 18

# What uncovered answers where nothing is needed, and what fund answers there.
NO_NEED = [0, 0, 0, 0, 0, 0]
NO_FUND = [0, 0, 0, 0, 0, 0, 0]


def bytes_of(text):
    return list(text.encode("latin-1") if isinstance(text, str) else text)


def with_count(row):
    return [len(row)] + list(row)


def now(*prices):
    return [0] + with_count(prices)


def member(who, margin, text):
    return [1, who, margin] + with_count(bytes_of(text))


def leave(who):
    return [2, who]


def margin(who, m):
    return [3, who, m]


def trade(a, b, text):
    return [4, a, b] + with_count(bytes_of(text))


def box(k, *row):
    return [5, k] + with_count(row)


def unbox(k):
    return [6, k]


def uncovered(*members):
    return [7] + with_count(members)


def fund(k):
    return [8, k]


def without(k, who):
    return [9, k, who]


def iftrade(k, a, b, text):
    return [10, k, a, b] + with_count(bytes_of(text))


def enough(k, f):
    return [11, k, f]


def loss(members, prices):
    return [12] + with_count(members) + with_count(prices)


def apart(k):
    return [13, k]


def members():
    return [14]


def text(who):
    return [15, who]


def point(k, *prices):
    """A box of one and the same least and greatest prices."""
    return box(k, *[price for price in prices for end in range(2)])


def on_first(k, least, greatest):
    """A box in which only the first price may differ from 0."""
    return box(k, least, greatest, 0, 0, 0, 0, 0, 0)


def line_of(calls):
    return [number for call in calls for number in call]


def cut_answers(told):
    cut = []
    at = 0
    while at < len(told):
        behind = at + 1 + told[at]
        assert behind <= len(told), "the last answer is cut off"
        cut.append(told[at + 1:behind])
        at = behind
    return cut


def ask(*calls):
    """Each call's answer as a list."""
    cut = cut_answers(answers(line_of(calls)))
    assert len(cut) == len(calls), "as many answers as calls"
    return cut


def probes(keys):
    """Calls that show what an object holds: needs of all sets, members, texts, losses, then margins and boxes."""
    calls = []
    calls += [uncovered(*[who for who in range(1, 9) if chosen >> who & 1]) for chosen in range(0, 512, 2)]
    calls += [members(), apart(3), fund(3)]
    calls += [text(who) for who in range(1, 9)]
    calls += [loss([who], [0, 0, 0, 0]) for who in range(1, 9)]
    calls += [margin(who, 0) for who in range(1, 9)]
    calls += [uncovered(who) for who in range(1, 9)]
    calls += [leave(who) for who in range(1, 9)]
    calls += [unbox(k) for k in keys]
    return calls


class Case(unittest.TestCase):
    """A test that can look at refusals, and at calls that leave the object as it is."""

    def check_changes_nothing(self, before, call, answer, keys=(1, 2, 3, 4, 5, 6, 7)):
        """The call behind those before it answers that, and the object is then as it was."""
        ends = probes(keys)
        # A list has at most 400 calls, so the probes are asked in parts.
        for at in range(0, len(ends), 128):
            part = ends[at:at + 128]
            told = ask(*before, call, *part)[len(before):]
            self.assertEqual(told[0], answer)
            self.assertEqual(told[1:], ask(*before, *part)[len(before):])

    def check_refused(self, before, call, refusal, keys=(1, 2, 3, 4, 5, 6, 7)):
        """The call behind those before it is refused by that number alone and changes nothing."""
        self.check_changes_nothing(before, call, [refusal], keys)
