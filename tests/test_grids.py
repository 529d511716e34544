import itertools
import math
import unittest

from changehall.grids import chained, is_slant, linked, measures, slanted, turned
from changehall.stairs import stair

from helper import edge_halls, long_halls, small_halls, units


def determinant(rows):
    if not rows:
        return 1
    return sum((-1) ** spot * number * determinant([row[:spot] + row[spot + 1:] for row in rows[1:]])
               for spot, number in enumerate(rows[0]) if number)


# What divides all square cuts of a size: the products of the first parts are known to be these.
def common_of_cuts(rows, width, size):
    return math.gcd(*[determinant([[row[spot] for spot in spots] for row in some])
                      for some in itertools.combinations(rows, size)
                      for spots in itertools.combinations(range(width), size)])


class GridsTest(unittest.TestCase):
    def test_turned(self):
        self.assertEqual(turned([[1, 2, 3], [4, 5, 6]], 3), [[1, 4], [2, 5], [3, 6]])
        self.assertEqual(turned([], 2), [[], []])

    def test_is_slant(self):
        for rows in [[], [[3]], [[1, 0], [0, 5]]]:
            self.assertIs(is_slant(rows), True)
        for rows in [[[1, 1], [0, 5]], [[1, 0], [1, 5]], [[0, 1], [1, 0]]]:
            self.assertIs(is_slant(rows), False)

    def test_slanted_keeps_the_product(self):
        told = slanted([[2, 1], [0, 2]], units(2), 4)
        self.assertEqual(sorted(part for weights, part in told), [1, 4])

    def test_linked(self):
        for a in range(1, 13):
            for b in range(1, 13):
                one, other = linked(([1, 0], a), ([0, 1], b))
                self.assertEqual((one[1], other[1]), (math.gcd(a, b), math.lcm(a, b)))
                places = {(sum(x * y for x, y in zip(one[0], basket)) % one[1],
                           sum(x * y for x, y in zip(other[0], basket)) % other[1])
                          for basket in itertools.product(range(a), range(b))}
                self.assertEqual(len(places), a * b)

    def test_chained_each_dividing_the_next_one(self):
        for numbers in itertools.product([1, 2, 3, 4, 6, 10, 15], repeat=3):
            told = [part for weights, part in chained([(row, part) for row, part in zip(units(3), numbers)])]
            self.assertEqual([told[1] % told[0], told[2] % told[1]], [0, 0])
            self.assertEqual(math.prod(told), math.prod(numbers))

    def test_parts_by_what_divides_all_square_cuts(self):
        halls = small_halls(41, each=3, most_kinds=4, most_bills=4) + edge_halls() + long_halls(41)[:6]
        for hall in halls:
            told = [part for weights, part in measures(hall)]
            for size in range(1, hall[0] + 1):
                rows = [list(bill) for bill in stair(hall)]
                self.assertEqual(math.prod(told[:size]), common_of_cuts(rows, hall[0], size), (hall, size))

    def test_weights_are_rests(self):
        for hall in small_halls(42) + long_halls(42):
            for weights, part in measures(hall):
                self.assertEqual([type(weights), len(weights)], [list, hall[0]])
                if part:
                    self.assertTrue(all(0 <= number < part for number in weights))


if __name__ == "__main__":
    unittest.main()
