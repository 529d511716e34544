import itertools
import random
import unittest

from changehall.groups import groups, share
from changehall.halls import hall_of
from changehall.plans import alike
from changehall.several import joined, met
from changehall.tables import pulled

from helper import LONG, asked_twice, edge_halls, led, long_halls, plus, small_halls, some_row, units


def sparse_hall(source, kinds, many):
    return hall_of(kinds, [[source.choice([0, 0, 0, 0, 2, -3, 6]) for spot in range(kinds)] for bill in range(many)])


def sparse_halls(seed):
    source = random.Random(seed)
    return [sparse_hall(source, kinds, many) for kinds in range(1, 7) for many in range(9) for turn in range(4)]


# By spreading from each kind, bill by bill, until nothing comes in any more.
def hanging_with(hall, kind):
    reached = {kind}
    while True:
        more = {other for bill in hall[1] if any(bill[one] for one in reached) for other in range(hall[0]) if bill[other]}
        if more <= reached:
            return sorted(reached)
        reached |= more


def cut(basket, group):
    return [basket[kind] for kind in group]


class GroupsTest(unittest.TestCase):
    def test_told(self):
        self.assertEqual(groups(hall_of(3, [])), [[0], [1], [2]])
        self.assertEqual(groups(hall_of(3, [[0, 0, 0]])), [[0], [1], [2]])
        self.assertEqual(groups(hall_of(3, [[1, 0, -2]])), [[0, 2], [1]])
        self.assertEqual(groups(hall_of(3, [[0, 1, 2]])), [[0], [1, 2]])
        self.assertEqual(groups(hall_of(3, [[5, 0, 0], [0, 5, 0]])), [[0], [1], [2]])
        self.assertEqual(groups(hall_of(2, [[LONG, -LONG]])), [[0, 1]])
        self.assertEqual(groups(hall_of(1, [[0]])), [[0]])

    def test_by_kinds_between_in_any_order_of_the_bills(self):
        bills = [[1, 0, 0, 0, 0, 1], [0, 1, 0, 0, 1, 0], [0, 0, 0, 1, 0, 1], [0, 0, 0, 2, 0, 0]]
        for some in itertools.permutations(bills):
            self.assertEqual(groups(hall_of(6, list(some))), [[0, 3, 5], [1, 4], [2]])
        chain = [[1, 1, 0, 0, 0, 0], [0, 0, 1, 1, 0, 0], [0, 0, 0, 0, 1, 1], [0, 1, 1, 0, 0, 0], [0, 0, 0, 1, 1, 0]]
        for some in itertools.permutations(chain):
            self.assertEqual(groups(hall_of(6, list(some))), [[0, 1, 2, 3, 4, 5]])

    def test_by_spreading(self):
        for hall in sparse_halls(131) + edge_halls() + small_halls(131):
            told = groups(hall)
            self.assertIs(type(told), list)
            self.assertTrue(all(type(group) is list for group in told))
            self.assertEqual(sorted(kind for group in told for kind in group), list(range(hall[0])))
            self.assertEqual([group[0] for group in told], sorted(group[0] for group in told))
            for group in told:
                for kind in group:
                    self.assertEqual(hanging_with(hall, kind), group)

    def test_what_is_handed_in_stays(self):
        for hall in edge_halls():
            self.assertTrue(asked_twice(groups, [hall]))
            for group in groups(hall):
                self.assertTrue(asked_twice(share, [hall, group]))


class ShareTest(unittest.TestCase):
    def test_told(self):
        hall = hall_of(3, [[1, 0, -2], [0, 7, 0], [0, 0, 0]])
        self.assertEqual(share(hall, [0, 2]), (2, ((1, -2), (0, 0), (0, 0))))
        self.assertEqual(share(hall, [1]), (1, ((0,), (7,), (0,))))
        self.assertEqual(share(hall_of(2, []), [1]), (1, ()))

    def test_kinds_and_all_bills_cut(self):
        for hall in sparse_halls(132) + edge_halls():
            for group in groups(hall):
                told = share(hall, group)
                self.assertEqual([type(told), len(told), type(told[1])], [tuple, 2, tuple])
                self.assertEqual(told[0], len(group))
                self.assertEqual(told[1], tuple(tuple(cut(bill, group)) for bill in hall[1]))
                self.assertTrue(all(type(bill) is tuple for bill in told[1]))

    def test_greater_numbers_and_more_bills(self):
        bills = tuple((10 ** 50 + often, 0, 3 * often) for often in range(12))
        hall = (3, bills)
        self.assertEqual(groups(hall), [[0, 2], [1]])
        self.assertEqual(share(hall, [0, 2]), (2, tuple((bill[0], bill[2]) for bill in bills)))
        self.assertEqual(share(hall, [1]), (1, ((0,),) * 12))
        one, other = [hall for hall in long_halls(133) if hall[0] == 6][1:3]
        for told in [joined(one, other), met(one, other), pulled(one, units(6), other)]:
            for group in groups(told):
                self.assertEqual(share(told, group), (len(group), tuple(tuple(cut(bill, group)) for bill in told[1])))

    def test_alike_just_where_the_cuts_are_in_every_share(self):
        source = random.Random(134)
        seen = []
        for hall in sparse_halls(134):
            one = some_row(source, hall[0], 9)
            others = [led(hall, one, some_row(source, len(hall[1]), 9)), some_row(source, hall[0], 9)]
            for other in others + [plus(one, unit) for unit in units(hall[0])]:
                by_shares = all(alike(share(hall, group), cut(one, group), cut(other, group)) for group in groups(hall))
                self.assertEqual(alike(hall, one, other), by_shares)
                seen.append(by_shares)
        self.assertEqual(set(seen), {True, False})


if __name__ == "__main__":
    unittest.main()
