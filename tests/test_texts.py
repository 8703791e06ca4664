"""Texts of books: which are right, which books they tell, where others go wrong."""

import itertools
import re

from asking import NO_NEED, Case, ask, member, now, on_first, point, uncovered

LEG = r"[1-9][0-9]*(?: [FCP][1-4]@(?:0|[1-9][0-9]*))?"
BOOK = re.compile(rf"0|-?{LEG}(?: [+-] {LEG})*")

# Whatever part of a leg a beginning stops in, one of these brings it to an end.
ENDS = ("", "0", "1", "+ 1", " 1", "1@0", "@0")


def is_right(text):
    if not BOOK.fullmatch(text):
        return False
    for leg in re.findall(LEG, text):
        amount, _, contract = leg.partition(" ")
        if int(amount) > (10 ** 9 if contract else 10 ** 15):
            return False
        if contract and int(contract.partition("@")[2]) > 10 ** 6:
            return False
    return True


def begins_right(text):
    return any(is_right(text + end) for end in ENDS)


def told_of(*texts):
    """What member answers to each of at most 400 texts, for members of one and the same number."""
    return [answer[0] for answer in ask(*[member(1, 0, text) for text in texts])]


class Texts(Case):
    def check_text(self, text, told):
        if is_right(text):
            self.assertEqual(told, 1, text)
            return
        place = -1000 - told
        self.assertTrue(0 <= place <= len(text), text)
        self.assertTrue(begins_right(text[:place]), text)
        if place < len(text):
            self.assertFalse(begins_right(text[:place + 1]), text)

    def check_texts(self, texts):
        for at in range(0, len(texts), 300):
            part = texts[at:at + 300]
            for text, told in zip(part, told_of(*part), strict=True):
                self.check_text(text, told)

    def check_places(self, *rows):
        for text, place in rows:
            self.assertEqual(told_of(text), [-1000 - place], text)

    def check_right(self, *texts):
        for text in texts:
            self.assertEqual(told_of(text), [1], text)

    def test_the_documents_own(self):
        self.check_right("0", "-3 F1@100 + 2 C1@110 - 40", "2000000000 + 1")
        self.check_places(("2000000000 F1@1", 11))

    def test_the_empty_book_is_worth_nothing(self):
        self.assertEqual(ask(now(9, 9, 9, 9), point(1, 0, 0, 0, 0), member(1, 0, "0"), uncovered(1))[-1], NO_NEED)

    def test_the_book_told(self):
        calls = [member(1, 0, "-3 F1@100 + 2 C1@110 - 40")]
        for price, need in ((90, 0), (101, 3), (110, 30), (111, 31), (150, 70)):
            told = ask(now(100, 0, 0, 0), on_first(1, price, price), *calls, uncovered(1))
            self.assertEqual(told[-1], [need, 1, price, 0, 0, 0] if need else NO_NEED)

    def test_letters_and_underlyings(self):
        for underlying in range(4):
            at_ten = [10 if place == underlying else 0 for place in range(4)]
            at_four = [4 if place == underlying else 0 for place in range(4)]
            for leg, up, down in (("F", 0, 12), ("C", 0, 6), ("P", 6, 0), ("-F", 12, 0), ("-C", 6, 0), ("-P", 0, 6)):
                text = f"{leg[:-1]}2 {leg[-1]}{underlying + 1}@7"
                rise = ask(now(*at_four), point(1, *at_ten), member(1, 0, text), uncovered(1))
                fall = ask(now(*at_ten), point(1, *at_four), member(1, 0, text), uncovered(1))
                self.assertEqual(rise[-1], [up, 1] + at_ten if up else NO_NEED, text)
                self.assertEqual(fall[-1], [down, 1] + at_four if down else NO_NEED, text)

    def test_amounts_of_several_digits(self):
        told = ask(now(1, 0, 0, 0), point(1, 0, 0, 0, 0), member(1, 0, "1234567890 + 987654321 F1@1000 - 10"), uncovered(1))
        self.assertEqual(told[-1], [987654321, 1, 0, 0, 0, 0])

    def test_strikes(self):
        for strike in (0, 1, 9, 10, 109, 999999, 10 ** 6):
            text = f"1 P1@{strike} + 1 C1@{strike}"
            told = ask(now(10 ** 6, 0, 0, 0), on_first(1, 0, 10 ** 6), member(1, 0, text), uncovered(1))
            need = 10 ** 6 - strike
            self.assertEqual(told[-1], [need, 1, strike, 0, 0, 0] if need else NO_NEED)

    def test_the_empty_text(self):
        self.check_places(("", 0))

    def test_beginnings_go_wrong_at_their_end(self):
        text = "-3 F1@100 + 2 C1@110 - 40 + 5 P4@0"
        for length in range(len(text)):
            if is_right(text[:length]):
                self.check_right(text[:length])
            else:
                self.check_places((text[:length], length))

    def test_wrong_bytes_at_each_part(self):
        self.check_places(
            ("x", 0), ("+1", 0), (" 1", 0), ("F1@1", 0), ("@", 0), ("\x00", 0), ("\xff", 0),
            ("--1", 1), ("- 1", 1), ("-F", 1), ("1x", 1), ("1+1", 1), ("1@", 1), ("1-", 1), ("1F1@1", 1),
            ("1  + 1", 2), ("1 1", 2), ("1 @", 2), ("1 f1@1", 2), ("1 D1@1", 2), ("1 E1@1", 2), ("1 x", 2),
            ("1 F0@1", 3), ("1 F5@1", 3), ("1 F@1", 3), ("1 F 1@1", 3), ("1 C/@1", 3),
            ("1 F1 @1", 4), ("1 F1 + 1", 4), ("1 F11@1", 4), ("1 F1A", 4),
            ("1 F1@ 1", 5), ("1 F1@-1", 5), ("1 F1@x", 5), ("1 F1@/", 5), ("1 F1@:", 5),
            ("1 F1@1x", 6), ("1 F1@1+", 6), ("1 F1@1@", 6), ("1 F1@1 F1@1", 7), ("1 F1@1  ", 7), ("1 F1@1 1", 7),
            ("1 +1", 3), ("1 -1", 3), ("1 + -1", 4), ("1 - +1", 4), ("1 +  1", 4), ("1 + x", 4), ("1 + F1@1", 4),
            ("1\n", 1), ("1 F1@1\n", 6), ("1\t+ 1", 1), ("1 + 1 ", 6), ("1 + 1 +", 7), ("1 + 1 + ", 8),
        )

    def test_zeros_in_front(self):
        self.check_places(
            ("00", 1), ("01", 1), ("0 + 1", 1), ("0 F1@1", 1), ("-0", 1), ("-01", 1), ("0-", 1), ("0\x00", 1),
            ("1 + 0", 4), ("1 - 0", 4), ("1 + 01", 4), ("1 F1@00", 6), ("1 F1@01", 6), ("1 F1@0100 + 1", 6),
        )
        self.check_right("1 F1@0", "1 F1@0 + 10", "10 C2@0 - 100 P3@0")

    def test_quantities_at_their_bounds(self):
        self.check_right(
            "1000000000000000", "-1000000000000000", "1 - 1000000000000000", "999999999999999 + 1000000000000000",
            "1000000000 F1@1", "-1000000000 C1@1", "1 - 1000000000 P4@1", "1000000001", "1000000001 - 1000000000 F1@1",
        )
        self.check_places(
            ("1000000000000001", 15), ("-1000000000000001", 16), ("10000000000000000", 16), ("9999999999999999", 15),
            ("1 + 1000000000000001", 19), ("2000000000000000", 15), ("1" * 40, 15), ("9" * 4096, 15),
            ("1000000001 F1@1", 11), ("-1000000001 C1@1", 12), ("1 - 1000000001 P1@1", 15), ("1000000000000000 F", 17),
            ("1000000001 x", 11), ("1000000001 ", 11), ("10000000000 F1@1", 12), ("1000000001x", 10),
        )

    def test_strikes_at_their_bounds(self):
        self.check_right("1 F1@1000000", "1 F1@1000000 + 1 P2@999999")
        self.check_places(
            ("1 F1@1000001", 11), ("1 F1@10000000", 12), ("1 F1@1000000x", 12), ("1 F1@2000000", 11),
            ("1 F1@9999999", 11), ("1 + 1 C4@1000001", 15), ("1 F1@" + "1" * 4091, 11),
        )

    def test_long_texts(self):
        whole = " + ".join(["1"] * 1024)
        self.assertEqual(told_of(whole), [-3])
        self.check_places((whole + " + ", 4096), (whole + " + "[:1], 4094), (whole + " ++", 4095))

    def test_every_byte_at_every_place(self):
        for text in ("-3 F1@100 + 2 C1@110 - 40", "1000000000 P4@0 - 1000000000000000"):
            for at in range(len(text)):
                self.check_texts([text[:at] + chr(byte) + text[at + 1:] for byte in range(256)])
                self.check_texts([text[:at] + chr(byte) + text[at:] for byte in (32, 43, 45, 48, 49, 64, 70)])
                self.check_texts([text[:at] + text[at + 1:]])

    def test_all_short_texts_of_few_bytes(self):
        for length in range(6):
            self.check_texts(["".join(row) for row in itertools.product("01 -+C5@", repeat=length)])
