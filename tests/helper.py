"""What several tests need in common: halls made by chance from a fixed seed, wrong baskets, plain reckoning."""
import copy
import itertools
import random

from changehall.halls import hall_of

LONG = 10 ** 30 - 1


def of_figures(source, figures):
    number = source.randrange(10 ** (figures - 1), 10 ** figures)
    return number if source.randrange(2) else -number


def some_row(source, length, size):
    return [source.randint(-size, size) for spot in range(length)]


def some_hall(source, kinds, many, size):
    return hall_of(kinds, [some_row(source, kinds, size) for bill in range(many)])


def long_hall(source, kinds, many):
    return hall_of(kinds, [[of_figures(source, 30) for spot in range(kinds)] for bill in range(many)])


# Halls of every number of kinds and bills, with numbers that are small enough to share divisors.
def small_halls(seed, each=2, most_kinds=6, most_bills=8):
    source = random.Random(seed)
    return [some_hall(source, kinds, many, source.choice([1, 3, 12]))
            for kinds in range(1, most_kinds + 1) for many in range(most_bills + 1) for turn in range(each)]


def long_halls(seed):
    source = random.Random(seed)
    shapes = [(1, 1), (1, 8), (2, 1), (2, 2), (3, 8), (4, 4), (5, 8), (6, 1), (6, 5), (6, 6), (6, 7), (6, 8)]
    halls = [long_hall(source, kinds, many) for kinds, many in shapes]
    return halls + [layered_hall(source, kinds) for kinds in (2, 3, 6)]


# Bills with great divisors in common, and some that are sums of others: no short stair of ones.
def layered_hall(source, kinds):
    base = [[of_figures(source, 6) * 10 ** 6 for spot in range(kinds)] for bill in range(kinds)]
    bills = [plus(times(base[0], of_figures(source, 9)), times(row, of_figures(source, 9))) for row in base]
    return hall_of(kinds, bills[:8 - 1] + [plus(bills[0], bills[-1])])


# Ones that show an edge each: no bills, noughts alone, bills over again, an untouched kind, full heads, all alike.
def edge_halls():
    return [hall_of(1, []), hall_of(6, []), hall_of(3, [[0, 0, 0]]), hall_of(2, [[0, 0]] * 8), hall_of(1, [[0]]),
            hall_of(1, [[1]]), hall_of(1, [[-1]]), hall_of(1, [[200]]), hall_of(1, [[LONG]]), hall_of(1, [[12], [-18]]),
            hall_of(2, [[3, -1], [0, 4]]), hall_of(2, [[2, 4], [2, 4], [-2, -4]]), hall_of(2, [[0, 5]]),
            hall_of(2, [[5, 0]]), hall_of(3, [[2, 0, 1], [0, 0, 3]]), hall_of(3, [[0, 2, 1], [0, 0, 3]]),
            hall_of(2, [[6, 0], [0, 10]]), hall_of(2, [[4, 0], [0, 6]]), hall_of(3, [[6, 0, 0], [0, 10, 0], [0, 0, 15]]),
            hall_of(2, [[1, 0], [0, 1]]), hall_of(2, [[1, -200]]), hall_of(2, [[1, -7], [0, 200]]),
            hall_of(6, [[2 if spot == bill else 0 for spot in range(6)] for bill in range(6)]),
            hall_of(4, [[2, -2, 0, 0], [0, 2, -2, 0], [0, 0, 2, -2]]), hall_of(2, [[LONG, -LONG], [-LONG, LONG]])]


def plus(one, other):
    return [a + b for a, b in zip(one, other, strict=True)]


def times(row, often):
    return [often * number for number in row]


# Reckoned without the program, so that tests do not lean on what they test.
def led(hall, basket, uses):
    told = list(basket)
    for bill, often in zip(hall[1], uses, strict=True):
        told = plus(told, times(bill, often))
    return told


def minus(one, other):
    return [a - b for a, b in zip(one, other, strict=True)]


def heads_of(rows):
    return [next(spot for spot, number in enumerate(row) if number) for row in rows]


# By the long way, so that it says something about the short ones.
def primes_of(number):
    found = []
    for prime in itertools.count(2):
        if prime * prime > number:
            break
        while number % prime == 0:
            found.append(prime)
            number //= prime
    return sorted(set(found + [number] if number > 1 else found))


def units(kinds):
    return [[1 if spot == one_at else 0 for spot in range(kinds)] for one_at in range(kinds)]


# A basket that is nought in every way that counts, in a form that is none.
def wrong_baskets(kinds):
    good = [0] * kinds
    wrong = [tuple(good), None, 0, "0" * kinds, dict(enumerate(good)), good + [0], good[:-1], True, set(good)]
    for number in [True, False, "0", None, [0], 0.0]:
        wrong.append([number] + good[1:])
        wrong.append(good[:-1] + [number])
    return wrong


# Asks twice, spoiling the first answer's lists in between; tells the second and what became of what was handed in.
def asked_twice(ask, handed_in):
    before = copy.deepcopy(handed_in)
    first = ask(*handed_in)
    kept = copy.deepcopy(first)
    spoil(first)
    second = ask(*handed_in)
    return kept == second and before == handed_in


def spoil(told):
    if isinstance(told, list):
        for thing in told:
            spoil(thing)
        told.append("spoilt")
    elif isinstance(told, tuple):
        for thing in told:
            spoil(thing)
