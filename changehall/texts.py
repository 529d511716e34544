"""Halls and baskets written as texts, and read again."""
from changehall.errors import NoHall, NoText
from changehall.halls import hall_of, need_basket

MOST_FIGURES = 30


# Piece by piece, since Python writes no number of some thousand figures at once, and halls that
# are told may have such.
def figures(number):
    pieces = []
    left = abs(number)
    while left >= 10 ** 64:
        pieces.append(str(left % 10 ** 64).zfill(64))
        left = left // 10 ** 64
    pieces.append(str(left))
    if number < 0:
        pieces.append("-")
    return "".join(reversed(pieces))


def shown_row(row):
    return " ".join([figures(number) for number in row])


def shown(hall):
    return " / ".join([figures(hall[0])] + [shown_row(bill) for bill in hall[1]])


def shown_basket(hall, basket):
    need_basket(hall, basket)
    return shown_row(basket)


# Other alphabets have figures too, so each sign is looked up among those that are meant.
def are_figures(text):
    if not 1 <= len(text) <= MOST_FIGURES:
        return False
    return all([sign in "0123456789" for sign in text])


def read_number(text):
    size = text[1:] if text.startswith("-") else text
    if not are_figures(size):
        raise NoText("a number is 1 to 30 figures, with - ahead if it is below nought")
    if size.startswith("0") and text != "0":
        raise NoText("a nought stands ahead of other figures, or behind a -")
    return int(text)


def need_text(line):
    if not isinstance(line, str):
        raise NoText("what is read is a text")


# A blank too many leaves a number of no figures, which is refused as such.
def read_row(text):
    return [read_number(piece) for piece in text.split(" ")]


def read(line):
    need_text(line)
    pieces = line.split(" / ")
    kinds = read_number(pieces[0])
    bills = [read_row(piece) for piece in pieces[1:]]
    try:
        return hall_of(kinds, bills)
    except NoHall:
        raise NoText("these are no kinds and bills of a hall") from None


def read_basket(hall, line):
    need_text(line)
    basket = read_row(line)
    if len(basket) != hall[0]:
        raise NoText("a basket has one number for each kind")
    return basket
