"""Two halls of as many kinds: joined, met, and one within the other."""
from changehall.errors import NotWithin, Unlike
from changehall.halls import hall_by
from changehall.rows import noughts
from changehall.stairs import climbed, heads_product, lowered, stair, tagged_stair, tags_at_nought


def need_like(one, other):
    if one[0] != other[0]:
        raise Unlike("the halls have unlike kinds")


def joined(one, other):
    need_like(one, other)
    return hall_by(one[0], climbed(one[1] + other[1]))


# Rungs of one draw themselves along: where they come to nought together with rungs of the
# other, what was drawn along is reached in both.
def met(one, other):
    need_like(one, other)
    ours = stair(one)
    theirs = stair(other)
    both = tagged_stair(ours + theirs, ours + [noughts(one[0]) for rung in theirs])
    return hall_by(one[0], tags_at_nought(both, one[0]))


def within(one, other):
    need_like(one, other)
    rungs = stair(other)
    return all([lowered(bill, rungs) == noughts(one[0]) for bill in one[1]])


# With as many rungs the heads stand at the same spots, so their products tell the index; with
# fewer there are multiples without end that are alike in the other hall alone.
def index_in(one, other):
    if not within(one, other):
        raise NotWithin("the hall does not lie within the other one")
    ours = stair(one)
    theirs = stair(other)
    if len(ours) < len(theirs):
        return None
    return heads_product(ours) // heads_product(theirs)
