"""Scales: what anybody sees by that no use of bills leads from one basket to another one."""
from changehall.grids import measures
from changehall.halls import apart, need_basket_of
from changehall.plans import plan
from changehall.rows import taken, weighed
from changehall.whole import rest


# By the measure 1 all baskets are even: such a scale would tell nothing.
def scales(hall):
    return [(weights, part) for weights, part in measures(hall) if part != 1]


# The weight of what lies between two baskets, as a rest: nought if they are even.
def tilt(way, scale):
    return rest(weighed(way, scale[0]), scale[1])


def even(one, other, scale):
    kinds = len(scale[0])
    need_basket_of(kinds, one)
    need_basket_of(kinds, other)
    return tilt(taken(other, one), scale) == 0


def fair(hall, scale):
    return all([tilt(bill, scale) == 0 for bill in hall[1]])


# A scale without a measure is fair by every measure too, and one above the tilt does not wipe it out.
def measured_scale(scale, found):
    return (scale[0], abs(found) + 1 if scale[1] == 0 else scale[1])


def denial(hall, one, other):
    way = apart(hall, one, other)
    for scale in scales(hall):
        found = tilt(way, scale)
        if found != 0:
            return measured_scale(scale, found)
    return None


def judged(hall, one, other):
    uses = plan(hall, one, other)
    if uses is None:
        return ("denial", denial(hall, one, other))
    return ("plan", uses)
