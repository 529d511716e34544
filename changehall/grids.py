"""Rows of rows brought into a form with numbers on the slant alone, each dividing the next one.

What is sought are measures of a hall: tuples (weights, part), one for each kind. The rests of a basket's weights by
the parts tell its class.
"""
from changehall.rows import added, head_at, scaled, unit_row
from changehall.stairs import climbed, stair, tagged_stair, tags_at_nought
from changehall.whole import bridge, product, rest


def turned(rows, width):
    return [[row[spot] for row in rows] for spot in range(width)]


def is_slant(rows):
    for place, row in enumerate(rows):
        if head_at(row) != place or any([number != 0 for number in row[place + 1:]]):
            return False
    return True


def rests(row, part):
    return [rest(number, part) for number in row]


# Each row of the square is what the weights behind it make of the rungs. So rows are mixed with
# their weights, but columns, which are mere rungs, without any. The first number on the slant
# becomes a divisor of itself each time, until it divides its row and column and clears them; then
# the next one does.
def slanted(rows, tags, whole):
    many = len(rows)
    square = rows
    weights = tags
    while not is_slant(square):
        other = turned(climbed(turned(square, many)), many)
        both = tagged_stair(other, weights)
        square = [row[:many] for row in both]
        # All parts divide the whole, so that weights count by their rests alone and stay short.
        weights = [rests(row[many:], whole) for row in both]
    return [(row, square[place][place]) for place, row in enumerate(weights)]


# In the place of rests by a and b: a rest by what divides both, and one by the least that both
# divide. The numbers that mix the weights lead back by whole numbers.
def linked(one, other):
    found = bridge(one[1], other[1])
    common = found[0]
    least = one[1] // common * other[1]
    upper = added(one[0], other[0])
    lower = added(scaled(one[0], -found[2] * (other[1] // common)), scaled(other[0], found[1] * (one[1] // common)))
    return ((rests(upper, common), common), (rests(lower, least), least))


def chained(measured):
    found = list(measured)
    for first in range(len(found)):
        for second in range(first + 1, len(found)):
            pair = linked(found[first], found[second])
            found[first] = pair[0]
            found[second] = pair[1]
    return [(rests(weights, part), part) for weights, part in found]


# Weights that make nought of every rung are measured by 0: nothing is taken away there.
def measures(hall):
    kinds = hall[0]
    rungs = stair(hall)
    many = len(rungs)
    both = tagged_stair(turned(rungs, kinds), [unit_row(kinds, spot) for spot in range(kinds)])
    square = [row[:many] for row in both[:many]]
    whole = product([row[place] for place, row in enumerate(square)])
    bound = slanted(square, [row[many:] for row in both[:many]], whole)
    return chained(bound) + [(weights, 0) for weights in tags_at_nought(both, many)]
