"""Plans from one basket to another one, and idle rounds."""
from changehall.halls import apart, done, nought
from changehall.rows import noughts, scaled
from changehall.stairs import lowered, made_up, stair, stair_with_uses, tags_at_nought


def alike(hall, one, other):
    return lowered(apart(hall, one, other), stair(hall)) == nought(hall)


def plan(hall, one, other):
    return settled(hall, one, other)


# The way from the other one back, with no use made so far, is lowered by the bills that draw
# their uses along: where it comes to nought, the uses that were drawn along lead from one to the
# other, and the rungs at nought, which are the stair of the idle rounds, have lowered them.
def settled(hall, one, other):
    back = scaled(apart(hall, one, other), -1)
    left = lowered(back + noughts(len(hall[1])), stair_with_uses(hall))
    if left[:hall[0]] != nought(hall):
        return None
    return left[hall[0]:]


def idle(hall):
    return tags_at_nought(stair_with_uses(hall), hall[0])


def idle_by(hall, uses):
    if done(hall, nought(hall), uses) != nought(hall):
        return None
    return made_up(uses, idle(hall))
