"""Classes of alike baskets: their places, how many there are, and orders of baskets."""
from changehall.errors import NoPlace
from changehall.grids import measures
from changehall.halls import need_basket
from changehall.rows import is_row, mixed, noughts, scaled, unit_row, weighed
from changehall.stairs import heads_product, stair, tagged_stair, tags_at_nought, tags_of_rungs
from changehall.whole import rest


def parts(hall):
    return [part for weights, part in measures(hall)]


def place_by(measured, basket):
    return [rest(weighed(basket, weights), part) for weights, part in measured]


def place(hall, basket):
    need_basket(hall, basket)
    return place_by(measures(hall), basket)


def need_place(measured, numbers):
    if not is_row(numbers, len(measured)):
        raise NoPlace("a place is a list with one whole number for each part")
    for number, measure in zip(numbers, measured, strict=True):
        if rest(number, measure[1]) != number:
            raise NoPlace("a number of a place is from 0 to less than its part")


# Baskets that have the places with a single 1: those of single goods, drawing their baskets
# along, and the parts, at which places begin again, reach every place.
def baskets_by(measured):
    kinds = len(measured)
    ones = [unit_row(kinds, spot) for spot in range(kinds)]
    places = [place_by(measured, basket) for basket in ones]
    wraps = [scaled(ones[spot], measured[spot][1]) for spot in range(kinds)]
    both = tagged_stair(places + wraps, ones + [noughts(kinds) for spot in range(kinds)])
    return tags_of_rungs(both, kinds)


def basket_at(hall, numbers):
    measured = measures(hall)
    need_place(measured, numbers)
    return mixed(baskets_by(measured), numbers, hall[0])


def how_many(hall):
    rungs = stair(hall)
    if len(rungs) < hall[0]:
        return None
    return heads_product(rungs)


# Times the basket is taken together with bills to come to nought are the order's multiples.
def order(hall, basket):
    need_basket(hall, basket)
    rows = [basket] + list(hall[1])
    rounds = tags_at_nought(tagged_stair(rows, [[1]] + [[0] for bill in hall[1]]), hall[0])
    return rounds[0][0] if len(rounds) > 0 else None


# Every order divides the last part, and some basket has just that rest's order.
def period(hall):
    last = parts(hall)[-1]
    return last if last != 0 else None
