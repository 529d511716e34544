import random
import unittest

from changehall.errors import HallError, NoBasket, NoHall
from changehall.halls import apart, done, hall_of, nought

from helper import LONG, asked_twice, edge_halls, led, long_halls, of_figures, small_halls, some_row, wrong_baskets


class HallOfTest(unittest.TestCase):
    def test_kinds_and_bills_as_tuples(self):
        told = hall_of(2, [[3, -1], [0, 4]])
        self.assertEqual(told, (2, ((3, -1), (0, 4))))
        self.assertIs(type(told), tuple)
        self.assertIs(type(told[0]), int)
        self.assertIs(type(told[1]), tuple)
        self.assertEqual([type(bill) for bill in told[1]], [tuple, tuple])

    def test_what_is_made_at_the_bounds(self):
        self.assertEqual(hall_of(1, [[LONG]]), (1, ((LONG,),)))
        self.assertEqual(hall_of(1, [[-LONG]]), (1, ((-LONG,),)))
        for kinds in range(1, 7):
            self.assertEqual(hall_of(kinds, []), (kinds, ()))
            self.assertEqual(hall_of(kinds, [[0] * kinds] * 8), (kinds, ((0,) * kinds,) * 8))
        self.assertEqual(hall_of(6, [[LONG] * 6] * 8), (6, ((LONG,) * 6,) * 8))

    def refused(self, kinds, bills):
        with self.assertRaises(NoHall, msg=repr((kinds, bills))) as taken:
            hall_of(kinds, bills)
        self.assertIsInstance(taken.exception, HallError)

    def test_kinds_that_are_none(self):
        for kinds in [0, 7, 8, -1, -10 ** 40, 10 ** 40, True, False, "2", "", None, [2], (2,), {}, 2.0]:
            self.refused(kinds, [])
            self.refused(kinds, [[1, 2]])
        self.refused(True, [[1]])
        self.refused(7, [[1] * 7])
        self.refused(0, [[]])

    def test_bills_that_are_none(self):
        for bills in [None, (), ([1, 2],), ((1, 2),), 0, 1, "", "12", {}, {0: [1, 2]}, True, set()]:
            self.refused(2, bills)

    def test_a_ninth_bill(self):
        self.refused(2, [[1, 2]] * 9)
        self.refused(1, [[0]] * 9)
        self.refused(1, [[0]] * 100)

    def test_a_bill_that_is_none(self):
        wrong = [(1, 2), None, 12, 0, "12", "", {0: 1, 1: 2}, {}, [], [1], [1, 2, 3], [[1, 2]], True, {1, 2}]
        for bill in wrong:
            self.refused(2, [bill])
            self.refused(2, [[1, 2], bill])
            self.refused(2, [bill, [1, 2]])
            self.refused(2, [[1, 2]] * 7 + [bill])

    def test_a_number_that_is_none(self):
        for number in [True, False, "1", "", None, [1], (1,), 1.0, 10 ** 30, -10 ** 30, 10 ** 31, -10 ** 60]:
            self.refused(2, [[number, 1]])
            self.refused(2, [[1, number]])
            self.refused(1, [[number]])
            self.refused(2, [[1, 1], [1, 1], [1, number]])

    def test_nothing_is_changed_or_kept(self):
        bills = [[3, -1], [0, 4]]
        told = hall_of(2, bills)
        self.assertEqual(bills, [[3, -1], [0, 4]])
        bills[0][0] = 9
        bills.append([5, 5])
        self.assertEqual(told, (2, ((3, -1), (0, 4))))


class BasketsTest(unittest.TestCase):
    def test_nought(self):
        for hall in edge_halls():
            self.assertEqual(nought(hall), [0] * hall[0])
            self.assertTrue(asked_twice(nought, [hall]))

    def test_done_number_by_number(self):
        hall = hall_of(2, [[3, -1], [0, 4]])
        self.assertEqual(done(hall, [1, 1], [0, 0]), [1, 1])
        self.assertEqual(done(hall, [1, 1], [2, 0]), [7, -1])
        self.assertEqual(done(hall, [1, 1], [0, -3]), [1, -11])
        self.assertEqual(done(hall, [-5, 10], [-1, 2]), [-8, 19])
        self.assertEqual(done(hall_of(3, []), [1, -2, 3], []), [1, -2, 3])

    def test_done_by_chance(self):
        source = random.Random(11)
        for hall in small_halls(11) + long_halls(11) + edge_halls():
            basket = some_row(source, hall[0], 50)
            uses = some_row(source, len(hall[1]), 10 ** 30)
            self.assertEqual(done(hall, basket, uses), led(hall, basket, uses))
            self.assertEqual(done(hall, done(hall, basket, uses), [-often for often in uses]), basket)

    def test_apart_number_by_number(self):
        hall = hall_of(3, [[1, 2, 3]])
        self.assertEqual(apart(hall, [1, 2, 3], [5, 2, -1]), [4, 0, -4])
        self.assertEqual(apart(hall, [0, 0, 0], [LONG, -LONG, 1]), [LONG, -LONG, 1])
        self.assertEqual(apart(hall, [LONG, -LONG, 1], [0, 0, 0]), [-LONG, LONG, -1])
        source = random.Random(12)
        for kinds in range(1, 7):
            one = [of_figures(source, 40) for spot in range(kinds)]
            other = [of_figures(source, 40) for spot in range(kinds)]
            self.assertEqual(apart(hall_of(kinds, []), one, other), [b - a for a, b in zip(one, other)])

    def test_what_is_handed_in_stays(self):
        hall = hall_of(2, [[3, -1], [0, 4]])
        self.assertTrue(asked_twice(done, [hall, [1, 1], [2, -1]]))
        self.assertTrue(asked_twice(done, [hall, [1, 1], [0, 0]]))
        self.assertTrue(asked_twice(done, [hall_of(2, []), [1, 1], []]))
        self.assertTrue(asked_twice(apart, [hall, [1, 1], [2, -1]]))
        self.assertTrue(asked_twice(apart, [hall, [0, 0], [2, -1]]))
        one = [1, 1]
        told = done(hall, one, [0, 0])
        one[0] = 5
        self.assertEqual(told, [1, 1])

    def test_wrong_baskets(self):
        for kinds in range(1, 7):
            hall = hall_of(kinds, [[1] * kinds])
            for wrong in wrong_baskets(kinds):
                with self.subTest(kinds=kinds, wrong=wrong):
                    with self.assertRaises(NoBasket):
                        done(hall, wrong, [1])
                    with self.assertRaises(NoBasket):
                        apart(hall, wrong, [0] * kinds)
                    with self.assertRaises(NoBasket):
                        apart(hall, [0] * kinds, wrong)
                    with self.assertRaises(NoBasket):
                        apart(hall, wrong, wrong)


if __name__ == "__main__":
    unittest.main()
