"""A basket parted by the primes that divide its order."""
from changehall.classes import order
from changehall.errors import TooMany
from changehall.rows import scaled
from changehall.whole import bridge

MOST_ORDER = 1000000


# Tuples (prime, power): rising primes, each with its greatest power that divides the number.
def prime_powers(number):
    found = []
    left = number
    prime = 2
    while left > 1:
        # No prime below divides what is left, so beyond its root what is left is itself a prime.
        if prime * prime > left:
            prime = left
        power = 1
        while left % prime == 0:
            power = power * prime
            left = left // prime
        if power > 1:
            found.append((prime, power))
        prime = prime + 1
    return found


# So often taken, a basket of this order keeps just what belongs to the power: the number leaves
# the rest 1 by the power and 0 by what else the order has.
def often_for(power, whole):
    others = whole // power
    return others * bridge(others, power)[1] % whole


def parted(hall, basket):
    whole = order(hall, basket)
    if whole is None or whole > MOST_ORDER:
        raise TooMany("the basket's order is above 1000000, or it has none")
    return [(prime, scaled(basket, often_for(power, whole))) for prime, power in prime_powers(whole)]
