"""Classes gone through by steps, and the thrifty basket of each."""
from changehall.classes import how_many
from changehall.errors import TooMany
from changehall.halls import need_basket, nought
from changehall.rows import added, scaled, unit_row
from changehall.stairs import lowered, stair

MOST_CLASSES = 200


def need_few(hall):
    many = how_many(hall)
    if many is None or many > MOST_CLASSES:
        raise TooMany("the hall has more than 200 classes")


# A step is one good more or less: baskets by so many steps have just that sum of sizes.
def single_steps(kinds):
    ones = [unit_row(kinds, spot) for spot in range(kinds)]
    return ones + [scaled(one, -1) for one in ones]


# Pairs (token, basket) of the classes one step further that no earlier step came to. A basket
# never steps back, since it would have come there by fewer steps.
def next_level(level, steps, rungs, seen):
    found = []
    for start in level:
        for step in steps:
            basket = added(start[1], step)
            reached = lowered(basket, rungs)
            if tuple(reached) not in seen:
                seen[tuple(reached)] = True
                found.append((reached, basket))
    return sorted(found, key=lambda pair: pair[0])


def classes(hall):
    need_few(hall)
    rungs = stair(hall)
    steps = single_steps(hall[0])
    seen = {tuple(nought(hall)): True}
    level = [(nought(hall), nought(hall))]
    told = []
    many = 0
    while len(level) > 0:
        told.extend([(reached, many, basket) for reached, basket in level])
        level = next_level(level, steps, rungs, seen)
        many = many + 1
    return told


def thrifty(hall, basket):
    need_basket(hall, basket)
    told = classes(hall)
    sought = lowered(basket, stair(hall))
    found = [each[2] for each in told if each[0] == sought]
    return found[0]
