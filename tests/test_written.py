"""Promise 16: text; how books are written."""

import itertools

from asking import FAR, Case, ask, bytes_of, leave, member, text, trade

GREATEST = "1000000000000000 - 1000000000000000 + 1000000000 F1@1000000 - 1000000000 C4@1000000 + 1000000000 P2@0"


class Text(Case):
    def check_text(self, calls, who, written):
        told = ask(*calls, text(who))[-1]
        self.assertEqual(told, [0] + bytes_of(written), bytes(told[1:]))

    def check_kept(self, *texts):
        """Each text's book is written as that text, and again so when that is handed in for another member."""
        for written in texts:
            told = ask(member(2, 0, written), text(2))[-1]
            self.assertEqual(told, [0] + bytes_of(written))
            self.assertEqual(ask(member(5, 0, told[1:]), text(5)), [[1], told])

    def test_the_empty_book(self):
        self.assertEqual(ask(member(1, 0, "0"), text(1)), [[1], [0, 48]])

    def test_the_documents_own(self):
        self.check_kept("-3 F1@100 + 2 C1@110 - 40", "2000000000 + 1")

    def test_each_kind_and_each_underlying(self):
        for letter, underlying, sign in itertools.product("FCP", "1234", ("", "-")):
            self.check_kept(f"{sign}12 {letter}{underlying}@345", f"7 + 12 {letter}{underlying}@345 - 8 P1@9")
        self.check_kept("5", "-5", "1 + 1", "1 - 1", "-1 - 1", "-1 + 1")

    def test_in_bytes(self):
        told = ask(member(1, 0, "-3 F1@10 + 2 P4@0 - 1"), text(1))[-1]
        self.assertEqual(told, [
            0, 45, 51, 32, 70, 49, 64, 49, 48, 32, 43, 32, 50, 32, 80, 52, 64, 48, 32, 45, 32, 49,
        ])

    def test_as_they_came(self):
        # Neither put in another order nor added up.
        self.check_kept("1 F1@5 + 1 F1@5", "1 - 1", "9 P4@9 + 1 C1@1 - 1 C1@1 + 3 F2@2 + 7")

    def test_quantities_and_strikes(self):
        self.check_kept(GREATEST, "-" + GREATEST)
        for amount in (1, 9, 10, 100, 101, 10 ** 9 - 1, 10 ** 9):
            self.check_kept(f"{amount} F1@1", f"-{amount} C2@0", f"1 - {amount} P3@10")
        for amount in (10 ** 9 + 1, 10 ** 14, 10 ** 15 - 1, 10 ** 15):
            self.check_kept(f"{amount}", f"-{amount}", f"1 + {amount}")
        for strike in (0, 1, 9, 10, 100, 100001, 999999, 1000000):
            self.check_kept(f"1 F1@{strike}", f"1 C1@{strike} - 1 P1@{strike}")

    def test_24_legs(self):
        self.check_kept(" - ".join(["1000000000 C3@1000000"] * 24), " + ".join(["1"] * 24))

    def test_behind_trade(self):
        calls = [member(3, 0, "1 F1@2"), member(8, 0, "-4"), trade(3, 8, "-5 C2@6 + 7 P3@0 - 8")]
        self.check_text(calls, 3, "1 F1@2 - 5 C2@6 + 7 P3@0 - 8")
        self.check_text(calls, 8, "-4 + 5 C2@6 - 7 P3@0 + 8")
        calls.append(trade(8, 3, "9 F4@1"))
        self.check_text(calls, 3, "1 F1@2 - 5 C2@6 + 7 P3@0 - 8 - 9 F4@1")
        self.check_text(calls, 8, "-4 + 5 C2@6 - 7 P3@0 + 8 + 9 F4@1")

    def test_behind_trade_of_empty_books(self):
        calls = [member(3, 0, "0"), member(8, 0, "0")]
        for who in (3, 8):
            self.check_text(calls + [trade(3, 8, "0")], who, "0")
        self.check_text(calls + [trade(3, 8, "2 F1@1 - 6")], 3, "2 F1@1 - 6")
        self.check_text(calls + [trade(3, 8, "2 F1@1 - 6")], 8, "-2 F1@1 + 6")
        self.check_text(calls + [trade(3, 8, "-2 F1@1 - 6")], 8, "2 F1@1 + 6")

    def test_there_and_back_stays_written(self):
        calls = [member(3, 0, "0"), member(8, 0, "0"), trade(3, 8, "1"), trade(8, 3, "1")]
        self.check_text(calls, 3, "1 - 1")
        self.check_text(calls, 8, "-1 + 1")

    def test_greatest_behind_trade(self):
        calls = [member(3, 0, "0"), member(8, 0, "0"), trade(3, 8, GREATEST)]
        self.check_text(calls, 3, GREATEST)
        self.check_text(
            calls, 8,
            "-1000000000000000 + 1000000000000000 - 1000000000 F1@1000000 + 1000000000 C4@1000000 - 1000000000 P2@0",
        )

    def test_traded_texts_are_right(self):
        calls = [member(3, 0, "1"), member(8, 0, "-2 F2@2"), trade(3, 8, GREATEST), trade(8, 3, "-7 P1@1 + 3")]
        for who in (3, 8):
            told = ask(*calls, text(who))[-1]
            self.assertEqual(ask(member(1, 0, told[1:]), text(1)), [[1], told])

    def test_the_last_book_of_that_number(self):
        self.check_text([member(3, 0, "1"), member(3, 0, "-2 F1@0")], 3, "-2 F1@0")

    def test_no_such_member(self):
        before = [member(3, 0, "1"), member(8, 0, "0")]
        for who in (1, 2, 4, 0, 9, -3, FAR, -FAR):
            self.check_refused(before, text(who), -1)
        self.assertEqual(ask(*before, leave(3), text(3))[-1], [-1])
        self.assertEqual(ask(text(1)), [[-1]])

    def test_changes_nothing(self):
        self.check_changes_nothing([member(3, 0, "1"), member(8, 0, "2 F1@0")], text(8), [0, *b"2 F1@0"])
