"""Baskets near to nought that are alike to a basket."""
from changehall.errors import TooMany
from changehall.halls import need_basket
from changehall.stairs import lowered, stair
from changehall.whole import product

MOST_BASKETS = 2000


def need_small(kinds, size):
    if product([2 * size + 1 for spot in range(kinds)]) > MOST_BASKETS:
        raise TooMany("more than 2000 baskets lie so near")


# Each beginning goes on by rising numbers, so the whole rises number by number.
def box(kinds, size):
    found = [[]]
    for spot in range(kinds):
        longer = []
        for start in found:
            longer.extend([start + [number] for number in range(-size, size + 1)])
        found = longer
    return found


def near(hall, basket, size):
    need_basket(hall, basket)
    need_small(hall[0], size)
    rungs = stair(hall)
    sought = lowered(basket, rungs)
    return [each for each in box(hall[0], size) if lowered(each, rungs) == sought]
