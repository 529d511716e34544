"""Rows of whole numbers: what baskets, bills, uses and stairs have in common.

A row may be handed in as a list or a tuple; what is told is always a new list.
"""


# Python counts True and False among its whole numbers; the program does not.
def is_whole(value):
    return isinstance(value, int) and not isinstance(value, bool)


# Only a list is a row that a user may hand in: tuples are kept for halls.
def is_row(value, length):
    if not isinstance(value, list) or len(value) != length:
        return False
    return all([is_whole(number) for number in value])


def noughts(length):
    return [0 for spot in range(length)]


def unit_row(length, one_at):
    return [1 if spot == one_at else 0 for spot in range(length)]


def added(one, other):
    return [a + b for a, b in zip(one, other, strict=True)]


def taken(one, other):
    return [a - b for a, b in zip(one, other, strict=True)]


def scaled(row, often):
    return [often * number for number in row]


def weighed(row, weights):
    return sum([a * b for a, b in zip(row, weights, strict=True)])


# The length is asked for since no rows at all still mix to a row of noughts.
def mixed(rows, counts, length):
    total = noughts(length)
    for row, often in zip(rows, counts, strict=True):
        total = added(total, scaled(row, often))
    return total


# A row of noughts has no head: its length then stands further right than any head.
def head_at(row):
    for spot, number in enumerate(row):
        if number != 0:
            return spot
    return len(row)
