import unittest

from changehall.rows import added, head_at, is_row, is_whole, mixed, noughts, scaled, taken, unit_row, weighed

LONG = 10 ** 30 - 1


class KindsOfValuesTest(unittest.TestCase):
    def test_whole_numbers(self):
        for value in [0, 1, -1, LONG, -LONG]:
            self.assertIs(is_whole(value), True)

    def test_what_is_no_whole_number(self):
        for value in [True, False, None, 1.0, "1", [1], (1,), {}]:
            self.assertIs(is_whole(value), False, value)

    def test_rows(self):
        self.assertIs(is_row([], 0), True)
        self.assertIs(is_row([0], 1), True)
        self.assertIs(is_row([1, -2, LONG], 3), True)

    def test_what_is_no_row(self):
        wrong = [(1, 2), [1], [1, 2, 3], [], [1, True], [False, 1], [1, None], [1, 2.0], ["1", 2], "12", None, 2,
                 {0: 1, 1: 2}]
        for value in wrong:
            self.assertIs(is_row(value, 2), False, value)


class MadeRowsTest(unittest.TestCase):
    def test_noughts(self):
        self.assertEqual(noughts(0), [])
        self.assertEqual(noughts(3), [0, 0, 0])

    def test_unit_row(self):
        self.assertEqual(unit_row(1, 0), [1])
        self.assertEqual([unit_row(3, spot) for spot in range(3)], [[1, 0, 0], [0, 1, 0], [0, 0, 1]])

    def test_new_ones_each_time(self):
        for make in [lambda: noughts(2), lambda: unit_row(2, 0)]:
            first = make()
            kept = list(first)
            first[1] = 5
            self.assertEqual(make(), kept)


class ReckonedRowsTest(unittest.TestCase):
    def test_added(self):
        self.assertEqual(added([1, -2, LONG], [3, 2, 1]), [4, 0, 10 ** 30])
        self.assertEqual(added([], []), [])

    def test_taken(self):
        self.assertEqual(taken([1, -2, 0], [3, 2, LONG]), [-2, -4, -LONG])

    def test_scaled(self):
        self.assertEqual(scaled([1, -2, 0], -3), [-3, 6, 0])
        self.assertEqual(scaled([1, -2], 0), [0, 0])

    def test_weighed(self):
        self.assertEqual(weighed([1, -2, 3], [4, 5, -6]), -24)
        self.assertEqual(weighed([], []), 0)

    def test_mixed(self):
        self.assertEqual(mixed([[1, 2], [3, -4]], [2, -1], 2), [-1, 8])
        self.assertEqual(mixed([[1, 2]], [0], 2), [0, 0])
        self.assertEqual(mixed([], [], 3), [0, 0, 0])

    def test_tuples_give_lists(self):
        told = [added((1,), (2,)), taken((1,), (2,)), scaled((1,), 2), mixed(((1,),), [2], 1)]
        self.assertEqual(told, [[3], [-1], [2], [2]])

    def test_unlike_lengths_are_not_cut(self):
        for reckon in [added, taken, weighed]:
            with self.assertRaises(ValueError):
                reckon([1, 2], [1])

    def test_head_at(self):
        self.assertEqual(head_at([0, -3, 1]), 1)
        self.assertEqual(head_at([2, 0]), 0)
        self.assertEqual(head_at([0, 0]), 2)
        self.assertEqual(head_at([]), 0)

    def test_nothing_handed_in_is_changed_or_kept(self):
        one = [1, 2]
        other = [3, 4]
        rows = [one, other]
        told = [added(one, other), taken(one, other), scaled(one, 1), mixed(rows, [1, 0], 2)]
        weighed(one, other)
        head_at(one)
        self.assertEqual(rows, [[1, 2], [3, 4]])
        one[0] = 9
        self.assertEqual(told, [[4, 6], [-2, -2], [1, 2], [1, 2]])


if __name__ == "__main__":
    unittest.main()
