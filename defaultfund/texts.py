"""Reads the texts of books, tells where a text goes wrong, and writes them."""

from defaultfund.legs import CALL, CASH, FORWARD, MOST_PRICE, PUT, Leg

# The bytes that texts are made of, besides the letters.
BLANK = 32
PLUS = 43
MINUS = 45
ZERO = 48
ONE = 49
FOUR = 52
NINE = 57
AT = 64
# Stands for the byte behind a text's last one, so that an end too early is met like a wrong byte.
NO_BYTE = 256

MOST_CASH = 1000000000000000
MOST_CONTRACTS = 1000000000


class WrongText(Exception):
    """A text isn't right; it goes wrong at the place."""

    def __init__(self, place):
        Exception.__init__(self, place)
        self.place = place


class Reader:
    """Walks along a text; the place is that of the byte that comes next.

    The bytes before the place always begin a right text, so a byte that can't come next
    is where the text goes wrong.
    """

    def __init__(self, given):
        self.given = given
        self.place = 0

    def byte_ahead(self, steps):
        """The byte that comes so many steps behind the next one."""
        at = self.place + steps
        if at < len(self.given):
            return self.given[at]
        return NO_BYTE

    def take_between(self, least, greatest):
        """Step over a byte that must be from the least to the greatest, and give it back."""
        byte = self.byte_ahead(0)
        if byte < least or byte > greatest:
            raise WrongText(self.place)
        self.place += 1
        return byte

    def take_byte(self, wanted):
        """Step over a byte that must be the wanted one."""
        self.take_between(wanted, wanted)

    def take_number(self, most):
        """Step over a number from 1 to the most, and give it back."""
        number = self.take_between(ONE, NINE) - ZERO
        while ZERO <= self.byte_ahead(0) <= NINE:
            number = 10 * number + self.byte_ahead(0) - ZERO
            if number > most:
                raise WrongText(self.place)
            self.place += 1
        return number

    def take_strike(self):
        """Step over a strike, and give it back."""
        if self.byte_ahead(0) == ZERO:
            self.place += 1
            return 0
        return self.take_number(MOST_PRICE)

    def take_leg(self, sign):
        """Step over a leg whose sign has been read, and give it back."""
        amount = self.take_number(MOST_CASH)
        kind = CASH
        # A letter behind too great an amount is left to what joins legs, which can't have one there.
        if self.byte_ahead(0) == BLANK and amount <= MOST_CONTRACTS:
            if self.byte_ahead(1) in (FORWARD, CALL, PUT):
                kind = self.byte_ahead(1)
        if kind == CASH:
            return Leg(CASH, sign * amount, 0, 0)
        self.take_byte(BLANK)
        self.take_byte(kind)
        underlying = self.take_between(ONE, FOUR) - ZERO
        self.take_byte(AT)
        strike = self.take_strike()
        return Leg(kind, sign * amount, underlying, strike)

    def take_first_sign(self):
        """Step over the minus of the first leg, if there is one, and give back 1 or -1."""
        if self.byte_ahead(0) == MINUS:
            self.place += 1
            return -1
        return 1

    def take_joint(self):
        """Step over what stands between two legs, and give back the sign, 1 or -1, of the second."""
        self.take_byte(BLANK)
        sign = 1
        if self.byte_ahead(0) == MINUS:
            self.take_byte(MINUS)
            sign = -1
        else:
            self.take_byte(PLUS)
        self.take_byte(BLANK)
        return sign


def read_book(text):
    """The legs that a right text tells, in order; raises WrongText for any other text."""
    if text == [ZERO]:
        return []
    reader = Reader(text)
    # "0" is right by itself and begins nothing else.
    if reader.byte_ahead(0) == ZERO:
        raise WrongText(1)
    sign = reader.take_first_sign()
    legs = [reader.take_leg(sign)]
    while reader.place < len(text):
        sign = reader.take_joint()
        legs.append(reader.take_leg(sign))
    return legs


def digits_of(number):
    """The bytes of a number from 0 on."""
    return [ord(digit) for digit in str(number)]


def write_leg(leg):
    """The bytes of a leg without its sign."""
    amount = digits_of(abs(leg.quantity))
    if leg.kind == CASH:
        return amount
    return amount + [BLANK, leg.kind, ZERO + leg.underlying, AT] + digits_of(leg.strike)


def write_book(book):
    """The bytes of a book's text."""
    if book == []:
        return [ZERO]
    text = []
    for leg in book:
        sign = MINUS if leg.quantity < 0 else PLUS
        if text != []:
            text.extend([BLANK, sign, BLANK])
        elif sign == MINUS:
            text.append(MINUS)
        text.extend(write_leg(leg))
    return text
