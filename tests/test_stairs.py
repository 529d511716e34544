import itertools
import random
import unittest

from changehall.errors import NoBasket
from changehall.halls import hall_of
from changehall.stairs import bills_by, stair, stair_by, token

from helper import (LONG, asked_twice, edge_halls, heads_of, led, long_halls, of_figures, plus, small_halls, some_row,
                    times, wrong_baskets)


# What baskets can be reached in a small hall of one or two kinds, by rests of every basket in a square.
def reached_by_walking(rows, kinds, size):
    seen = {(0,) * kinds}
    edge = list(seen)
    while edge:
        longer = []
        for basket in edge:
            for row in rows:
                for sign in (1, -1):
                    there = tuple(a + sign * b for a, b in zip(basket, row))
                    if there not in seen and max(map(abs, there)) <= size:
                        seen.add(there)
                        longer.append(there)
        edge = longer
    return seen


class StairTest(unittest.TestCase):
    def check_form(self, hall, rows):
        self.assertIs(type(rows), list)
        for row in rows:
            self.assertIs(type(row), list)
            self.assertEqual(len(row), hall[0])
            self.assertTrue(any(row))
        heads = heads_of(rows)
        self.assertEqual(heads, sorted(set(heads)))
        for below, spot in enumerate(heads):
            self.assertGreater(rows[below][spot], 0)
            for above in range(below):
                self.assertGreaterEqual(rows[above][spot], 0)
                self.assertLess(rows[above][spot], rows[below][spot])

    # Rows that are made up of the bills, and bills that are made up of the rows, reach the same baskets.
    def check_both_ways(self, hall):
        rows = stair(hall)
        self.check_form(hall, rows)
        uses = stair_by(hall)
        self.assertEqual(len(uses), len(rows))
        for row, each in zip(rows, uses):
            self.assertEqual([type(each), len(each)], [list, len(hall[1])])
            self.assertEqual(led(hall, [0] * hall[0], each), row)
        lists = bills_by(hall)
        self.assertEqual(len(lists), len(hall[1]))
        for bill, each in zip(hall[1], lists):
            self.assertEqual([type(each), len(each)], [list, len(rows)])
            self.assertEqual(led((hall[0], rows), [0] * hall[0], each), list(bill))

    def test_told_stairs(self):
        self.assertEqual(stair(hall_of(2, [[3, -1], [0, 4]])), [[3, 3], [0, 4]])
        self.assertEqual(stair(hall_of(2, [[4, 2], [6, 2]])), [[2, 0], [0, 2]])
        self.assertEqual(stair(hall_of(1, [[12], [-18]])), [[6]])
        self.assertEqual(stair(hall_of(1, [[-LONG]])), [[LONG]])
        self.assertEqual(stair(hall_of(3, [[0, -2, 5], [0, 0, 0]])), [[0, 2, -5]])
        self.assertEqual(stair(hall_of(3, [[0, 0, -7], [0, 3, 1]])), [[0, 3, 1], [0, 0, 7]])
        self.assertEqual(stair(hall_of(2, [[1, -200]])), [[1, -200]])

    def test_no_bills_and_noughts_alone(self):
        for kinds in range(1, 7):
            for many in range(9):
                hall = hall_of(kinds, [[0] * kinds] * many)
                self.assertEqual(stair(hall), [])
                self.assertEqual(stair_by(hall), [])
                self.assertEqual(bills_by(hall), [[]] * many)

    def test_form_and_both_ways(self):
        for hall in small_halls(21, each=6) + long_halls(21) + edge_halls():
            self.check_both_ways(hall)

    def test_halls_that_other_functions_could_tell(self):
        source = random.Random(22)
        for kinds, many, figures in [(6, 6, 190), (6, 14, 60), (3, 20, 400), (1, 9, 5000)]:
            bills = tuple(tuple(of_figures(source, figures) for spot in range(kinds)) for bill in range(many))
            self.check_both_ways((kinds, bills))

    def test_same_stair_behind_changes_that_change_nothing(self):
        source = random.Random(23)
        for hall in small_halls(23) + long_halls(23) + edge_halls():
            told = stair(hall)
            bills = [list(bill) for bill in hall[1]]
            for turn in range(6):
                source.shuffle(bills)
                if len(bills) > 1:
                    bills[0] = plus(bills[0], times(bills[1], source.randint(-9, 9)))
                if bills:
                    spot = source.randrange(len(bills))
                    bills[spot] = times(bills[spot], -1)
                if bills and len(bills) < 8:
                    bills.append(plus(bills[0], bills[-1]))
                elif len(bills) < 8:
                    bills.append([0] * hall[0])
                self.assertEqual(stair((hall[0], tuple(map(tuple, bills)))), told)
            self.assertEqual(stair((hall[0], tuple(map(tuple, told)))), told)
            self.assertEqual(stair((hall[0], hall[1] + ((0,) * hall[0],))), told)

    def test_other_halls_have_other_stairs(self):
        halls = [hall_of(2, bills) for bills in [[], [[1, 0]], [[0, 1]], [[2, 0]], [[1, 1]], [[1, 0], [0, 1]],
                                                 [[1, 1], [0, 2]], [[1, 0], [0, 2]], [[2, 0], [0, 1]]]]
        for one, other in itertools.combinations(halls, 2):
            self.assertNotEqual(stair(one), stair(other))

    def test_what_is_handed_in_stays(self):
        for hall in edge_halls():
            for ask in [stair, stair_by, bills_by]:
                self.assertTrue(asked_twice(ask, [hall]))


class TokenTest(unittest.TestCase):
    def test_told_tokens(self):
        hall = hall_of(2, [[3, -1], [0, 4]])
        self.assertEqual(token(hall, [0, 0]), [0, 0])
        self.assertEqual(token(hall, [3, -1]), [0, 0])
        self.assertEqual(token(hall, [-1, 0]), [2, 3])
        self.assertEqual(token(hall_of(2, [[0, 5]]), [-7, -7]), [-7, 3])
        self.assertEqual(token(hall_of(3, []), [-7, LONG, 0]), [-7, LONG, 0])
        self.assertEqual(token(hall_of(1, [[LONG]]), [-1]), [LONG - 1])

    def test_at_heads_and_of_itself_and_alike(self):
        source = random.Random(24)
        for hall in small_halls(24) + long_halls(24) + edge_halls():
            rows = stair(hall)
            for size in [3, 100, 10 ** 40]:
                basket = some_row(source, hall[0], size)
                told = token(hall, basket)
                self.assertEqual([type(told), len(told)], [list, hall[0]])
                for row, spot in zip(rows, heads_of(rows)):
                    self.assertIn(told[spot], range(row[spot]))
                self.assertEqual(token(hall, told), told)
                way = [b - a for a, b in zip(basket, told)]
                self.assertEqual(stair((hall[0], hall[1] + (tuple(way),))), rows)
                uses = some_row(source, len(hall[1]), 10 ** 12)
                self.assertEqual(token(hall, led(hall, basket, uses)), told)

    def test_equal_just_where_walking_leads(self):
        for bills in [[[3, -1], [0, 4]], [[2, 2]], [[0, 3]], [[2, 1], [1, 2]], [[4, 2], [2, 4], [1, 1]], [], [[0, 0]]]:
            hall = hall_of(2, bills)
            reached = reached_by_walking(bills, 2, 24)
            for basket in itertools.product(range(-6, 7), repeat=2):
                self.assertEqual(token(hall, list(basket)) == [0, 0], basket in reached, (bills, basket))

    def test_what_is_handed_in_stays(self):
        source = random.Random(25)
        for hall in edge_halls():
            self.assertTrue(asked_twice(token, [hall, some_row(source, hall[0], 99)]))
            basket = [0] * hall[0]
            told = token(hall, basket)
            basket[0] = 7
            self.assertEqual(told, [0] * hall[0])

    def test_wrong_baskets(self):
        for kinds in range(1, 7):
            for hall in [hall_of(kinds, []), hall_of(kinds, [[1] * kinds])]:
                for wrong in wrong_baskets(kinds):
                    with self.assertRaises(NoBasket, msg=repr(wrong)):
                        token(hall, wrong)


if __name__ == "__main__":
    unittest.main()
