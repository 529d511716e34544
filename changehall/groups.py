"""Kinds that hang together by bills, and a hall's shares for them."""
from changehall.halls import hall_by


# All groups that the bill touches become one.
def tied(found, bill):
    together = []
    others = []
    for group in found:
        if any([bill[kind] != 0 for kind in group]):
            together.extend(group)
        else:
            others.append(group)
    return others + [sorted(together)] if len(together) > 0 else others


# No two groups have a kind in common, so that sorting them goes by their least kinds.
def groups(hall):
    found = [[kind] for kind in range(hall[0])]
    for bill in hall[1]:
        found = tied(found, bill)
    return sorted(found)


def share(hall, group):
    return hall_by(len(group), [[bill[kind] for kind in group] for bill in hall[1]])
