"""The object that calls are made on, and the calls that change it."""

from defaultfund.legs import MOST_PRICE, opposite
from defaultfund.texts import WrongText, read_book

MOST_MEMBERS = 8
MOST_MARGIN = 1000000000000000
MOST_LEGS = 24
MOST_KEY = 1000000000
MOST_BOXES = 6


class House:
    """The prices now, each member's margin and book by its number, the boxes by their keys."""

    def __init__(self):
        self.prices_now = [0, 0, 0, 0]
        self.margins = {}
        self.books = {}
        self.boxes = {}


def copy_of(house):
    """Another house that holds the same; books and boxes are only ever replaced, so both may hold the same ones."""
    other = House()
    other.prices_now = house.prices_now
    other.margins = dict(house.margins)
    other.books = dict(house.books)
    other.boxes = dict(house.boxes)
    return other


def are_prices(row, how_many):
    """Whether the row is so many prices."""
    return len(row) == how_many and all([0 <= price <= MOST_PRICE for price in row])


def is_box(row):
    """Whether the row is a least and a greatest price for each underlying."""
    return are_prices(row, 8) and all([row[at] <= row[at + 1] for at in range(0, 8, 2)])


def is_margin(number):
    """Whether a member may have this margin."""
    return 0 <= number <= MOST_MARGIN


def set_now(house, prices):
    """The call now."""
    if not are_prices(prices, 4):
        return [-2]
    house.prices_now = prices
    return [0]


def put_member(house, who, margin, text):
    """The call member."""
    if who < 1 or who > MOST_MEMBERS:
        return [-1]
    if not is_margin(margin):
        return [-2]
    try:
        book = read_book(text)
    except WrongText as wrong:
        return [-1000 - wrong.place]
    if len(book) > MOST_LEGS:
        return [-3]
    house.margins[who] = margin
    house.books[who] = book
    return [len(house.books)]


def drop_member(house, who):
    """The call leave."""
    if who not in house.books:
        return [-1]
    house.margins.pop(who)
    house.books.pop(who)
    return [len(house.books)]


def set_margin(house, who, margin):
    """The call margin."""
    if who not in house.books:
        return [-1]
    if not is_margin(margin):
        return [-2]
    before = house.margins[who]
    house.margins[who] = margin
    return [before]


def make_trade(house, a, b, text):
    """The call trade."""
    if a not in house.books or b not in house.books or a == b:
        return [-2]
    try:
        legs = read_book(text)
    except WrongText as wrong:
        return [-1000 - wrong.place]
    if max(len(house.books[a]), len(house.books[b])) + len(legs) > MOST_LEGS:
        return [-3]
    house.books[a] = house.books[a] + legs
    house.books[b] = house.books[b] + [opposite(leg) for leg in legs]
    return [0]


def put_box(house, key, box):
    """The call box."""
    if key < 1 or key > MOST_KEY:
        return [-1]
    if not is_box(box):
        return [-2]
    if len(house.boxes) == MOST_BOXES and key not in house.boxes:
        return [-3]
    house.boxes[key] = box
    return [len(house.boxes)]


def drop_box(house, key):
    """The call unbox."""
    if key not in house.boxes:
        return [-1]
    house.boxes.pop(key)
    return [len(house.boxes)]
