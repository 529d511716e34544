"""Halls and their baskets: made, refused, and changed by uses of bills."""
from changehall.errors import NoBasket, NoHall
from changehall.rows import added, is_row, is_whole, mixed, noughts, taken

MOST_KINDS = 6
MOST_BILLS = 8


def are_kinds(value):
    return is_whole(value) and 1 <= value <= MOST_KINDS


def is_bill(value, kinds):
    return is_row(value, kinds) and all([abs(number) < 10 ** 30 for number in value])


def need_kinds(kinds):
    if not are_kinds(kinds):
        raise NoHall("kinds are a whole number from 1 to 6")


def need_bill(bill, kinds):
    if not is_bill(bill, kinds):
        raise NoHall("a bill is a list with one whole number of at most 30 figures for each kind")


def hall_of(kinds, bills):
    need_kinds(kinds)
    if not isinstance(bills, list) or len(bills) > MOST_BILLS:
        raise NoHall("bills are a list of at most 8")
    for bill in bills:
        need_bill(bill, kinds)
    return hall_by(kinds, bills)


# Halls that are told have no bounds but the kinds, so these are not looked at again.
def hall_by(kinds, rows):
    return (kinds, tuple([tuple(row) for row in rows]))


# A basket may have numbers of any length: only its form is looked at.
def need_basket_of(kinds, basket):
    if not is_row(basket, kinds):
        raise NoBasket("a basket is a list with one whole number for each kind")


def need_basket(hall, basket):
    need_basket_of(hall[0], basket)


def nought(hall):
    return noughts(hall[0])


def done(hall, basket, uses):
    need_basket(hall, basket)
    return added(basket, mixed(hall[1], uses, hall[0]))


def apart(hall, one, other):
    need_basket(hall, one)
    need_basket(hall, other)
    return taken(other, one)
