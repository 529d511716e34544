"""Whole numbers: the greatest common divisor and how it is made up, rests, products."""


# Both triples (n, x, y) keep a * x + b * y equal to n all along, so the last one
# that is not nought tells how the divisor is made up.
def bridge(a, b):
    upper = [a, 1, 0]
    lower = [b, 0, 1]
    while lower[0] != 0:
        often = upper[0] // lower[0]
        left = [upper[k] - often * lower[k] for k in range(3)]
        upper = lower
        lower = left
    if upper[0] < 0:
        upper = [-number for number in upper]
    return tuple(upper)


# The part 0 stands for "no multiple is taken away", so that whole numbers
# themselves count as rests by it.
def rest(a, part):
    if part == 0:
        return a
    return a % part


def product(numbers):
    found = 1
    for number in numbers:
        found = found * number
    return found
