"""The stair of a hall, and the stairs of any rows: what plans, classes and halls of halls are reckoned by.

The rows of a stair are called rungs where they need not be those of a hall.
"""
from changehall.halls import need_basket
from changehall.rows import added, head_at, scaled, taken, unit_row
from changehall.whole import bridge, product


# The counts tell how often each rung was taken away from the row to leave what is left.
# From the left on: a rung changes no number left of its head, so what is lowered stays so.
def lowering(row, rungs):
    left = list(row)
    counts = []
    for rung in rungs:
        spot = head_at(rung)
        often = left[spot] // rung[spot]
        if often != 0:
            left = taken(left, scaled(rung, often))
        counts.append(often)
    return (counts, left)


def lowered(row, rungs):
    return lowering(row, rungs)[1]


def made_up(row, rungs):
    return lowering(row, rungs)[0]


# Both rows begin at one spot. The two that are told reach just what these reach, since they
# lead back by whole numbers too; of them the first alone begins there.
def crossed(rung, row):
    spot = head_at(rung)
    found = bridge(rung[spot], row[spot])
    upper = added(scaled(rung, found[1]), scaled(row, found[2]))
    lower = taken(scaled(row, rung[spot] // found[0]), scaled(rung, row[spot] // found[0]))
    return (upper, lower)


def turned_up(row):
    return scaled(row, -1) if row[head_at(row)] < 0 else list(row)


# The row is lowered at each step, or else its numbers would double their length from head to head.
def with_row(rungs, row):
    found = list(rungs)
    left = lowered(row, found)
    while head_at(left) < len(left):
        places = [place for place, rung in enumerate(found) if head_at(rung) == head_at(left)]
        if len(places) == 0:
            return sorted(found + [turned_up(left)], key=head_at)
        pair = crossed(found[places[0]], left)
        found[places[0]] = pair[0]
        left = lowered(pair[1], found)
    return found


def evened(rungs):
    found = []
    for rung in reversed(rungs):
        found.insert(0, lowered(rung, found))
    return found


# Rows are put in one by one, and all is evened behind each, so that numbers stay short.
def climbed(rows):
    rungs = []
    for row in rows:
        rungs = evened(with_row(rungs, row))
    return rungs


# Each row draws its tag along: what is done to the rows is done to the tags. So the tags of
# rungs tell how these are made up, and those behind the width what makes up nought.
def tagged_stair(rows, tags):
    return climbed([list(row) + list(tag) for row, tag in zip(rows, tags, strict=True)])


def tags_of_rungs(rungs, width):
    return [rung[width:] for rung in rungs if head_at(rung) < width]


def tags_at_nought(rungs, width):
    return [rung[width:] for rung in rungs if head_at(rung) >= width]


def heads_product(rungs):
    return product([rung[head_at(rung)] for rung in rungs])


def stair(hall):
    return climbed(hall[1])


def stair_with_uses(hall):
    many = len(hall[1])
    return tagged_stair(hall[1], [unit_row(many, place) for place in range(many)])


def stair_by(hall):
    return tags_of_rungs(stair_with_uses(hall), hall[0])


def bills_by(hall):
    rungs = stair(hall)
    return [made_up(bill, rungs) for bill in hall[1]]


def token(hall, basket):
    need_basket(hall, basket)
    return lowered(basket, stair(hall))
