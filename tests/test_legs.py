"""Legs as they are read and what they are worth; cash and strikes of 0 don't show in any need."""

import unittest

from asking import bytes_of
from defaultfund.legs import CALL, CASH, FORWARD, PUT, Leg, opposite, worth
from defaultfund.texts import WrongText, read_book


def told(legs):
    return [(leg.kind, leg.quantity, leg.underlying, leg.strike) for leg in legs]


class Legs(unittest.TestCase):
    def test_read(self):
        self.assertEqual(read_book(bytes_of("0")), [])
        self.assertEqual(
            told(read_book(bytes_of("-3 F1@100 + 2 C1@110 - 40"))),
            [(FORWARD, -3, 1, 100), (CALL, 2, 1, 110), (CASH, -40, 0, 0)],
        )
        self.assertEqual(
            told(read_book(bytes_of("1000000000000000 - 1000000000 P4@0 + 7 C2@1000000 + 7"))),
            [(CASH, 10 ** 15, 0, 0), (PUT, -10 ** 9, 4, 0), (CALL, 7, 2, 10 ** 6), (CASH, 7, 0, 0)],
        )

    def test_wrong(self):
        with self.assertRaises(WrongText) as caught:
            read_book(bytes_of("2000000000 F1@1"))
        self.assertEqual(caught.exception.place, 11)

    def test_opposite(self):
        self.assertEqual(told([opposite(Leg(PUT, 5, 3, 9)), opposite(Leg(CASH, -4, 0, 0))]), [(PUT, -5, 3, 9), (CASH, 4, 0, 0)])

    def test_worth(self):
        rows = (
            ("0", 0), ("7", 7), ("-7", -7), ("2 F1@4", 12), ("2 F1@14", -8), ("-2 F1@14", 8), ("3 C2@15", 15),
            ("3 C2@20", 0), ("3 C2@25", 0), ("-3 C2@15", -15), ("4 P3@31", 4), ("4 P3@30", 0), ("4 P3@29", 0),
            ("-4 P3@31", -4), ("5 F4@0", 200), ("1 + 2 F1@4 + 3 C2@15 - 4 P3@31", 24),
        )
        for text, amount in rows:
            self.assertEqual(worth(read_book(bytes_of(text)), [10, 20, 30, 40]), amount, text)
