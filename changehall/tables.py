"""Tables: baskets of a hall carried to baskets of another one."""
from changehall.classes import baskets_by, place_by
from changehall.errors import Unlike
from changehall.grids import measures
from changehall.halls import hall_by, need_basket_of
from changehall.rows import is_row, mixed, noughts, unit_row
from changehall.stairs import lowered, stair, tagged_stair, tags_at_nought


def is_table(one, table, other):
    if not isinstance(table, list) or len(table) != one[0]:
        return False
    return all([is_row(row, other[0]) for row in table])


def need_table(one, table, other):
    if not is_table(one, table, other):
        raise Unlike("a table is a list with one basket of the other hall for each kind of the first")


def carried(table, basket, kinds):
    need_basket_of(len(table), basket)
    return mixed(table, basket, kinds)


# A table carries sums to sums, so that the bills alone tell of all baskets.
def sound(one, table, other):
    need_table(one, table, other)
    rungs = stair(other)
    return all([lowered(mixed(table, bill, other[0]), rungs) == noughts(other[0]) for bill in one[1]])


# The table's rows draw single goods along: where they come to nought together with rungs of the
# other hall, what was drawn along is carried to what is alike to nought.
def pulled(one, table, other):
    need_table(one, table, other)
    rungs = stair(other)
    goods = [unit_row(one[0], spot) for spot in range(one[0])]
    both = tagged_stair(table + rungs, goods + [noughts(one[0]) for rung in rungs])
    return hall_by(one[0], tags_at_nought(both, other[0]))


# By the part 1 there is one rest alone: such parts tell nothing of the shape.
def shape(measured):
    return [part for weights, part in measured if part != 1]


def one_shape(one, other):
    return shape(measures(one)) == shape(measures(other))


# Each kind's good is carried to a basket whose place has the same rests. Parts 1 stand ahead of
# others, and halls of one shape may have more or fewer of them.
def table_to(one, other):
    ours = measures(one)
    theirs = measures(other)
    if shape(ours) != shape(theirs):
        return None
    many = len(shape(ours))
    baskets = baskets_by(theirs)[other[0] - many:]
    places = [place_by(ours, unit_row(one[0], spot)) for spot in range(one[0])]
    return [mixed(baskets, numbers[one[0] - many:], other[0]) for numbers in places]
