import itertools
import random
import unittest

from changehall.classes import basket_at, how_many, parts, place
from changehall.errors import NoBasket, Unlike
from changehall.halls import hall_of
from changehall.plans import alike
from changehall.several import joined, met
from changehall.stairs import stair, token
from changehall.tables import carried, one_shape, pulled, sound, table_to

from helper import (LONG, asked_twice, edge_halls, led, long_halls, of_figures, plus, small_halls, some_hall, some_row,
                    times, units, wrong_baskets)


def some_table(source, one, other, size):
    return [some_row(source, other[0], size) for kind in range(one[0])]


def brought(table, basket, kinds):
    told = [0] * kinds
    for row, often in zip(table, basket, strict=True):
        told = plus(told, times(row, often))
    return told


def some_pairs(seed):
    source = random.Random(seed)
    pairs = [(some_hall(source, source.randrange(1, 7), source.randrange(9), 4),
              some_hall(source, source.randrange(1, 7), source.randrange(9), source.choice([1, 4, 12])))
             for turn in range(60)]
    halls = long_halls(seed)
    return pairs + list(zip(halls, halls[3:])) + list(zip(halls[3:], halls)) + list(zip(edge_halls(), edge_halls()[5:]))


# Halls of one shape with the given one: a kind more that a bill with 1 uses up, goods mixed, bills in other words.
def others_of_shape(source, hall):
    kinds = hall[0]
    mixed = [list(bill) for bill in hall[1]]
    if kinds > 1:
        mixed = [[bill[0] + 3 * bill[1]] + bill[1:] for bill in mixed]
    found = [(kinds, tuple(map(tuple, mixed))), (kinds, tuple(tuple(reversed(bill)) for bill in hall[1])),
             (kinds, tuple(map(tuple, stair(hall))))]
    if kinds < 6:
        extra = tuple(some_row(source, kinds, 5) + [1])
        found.append((kinds + 1, tuple(bill + (0,) for bill in hall[1]) + (extra,)))
        found.append((kinds + 1, ((1,) + tuple(some_row(source, kinds, 5)),) + tuple((0,) + bill for bill in hall[1])))
    return found


class CarriedTest(unittest.TestCase):
    def test_told(self):
        self.assertEqual(carried([[1, 2, 3], [0, -1, 5]], [2, -3], 3), [2, 7, -9])
        self.assertEqual(carried([[4], [5], [6]], [1, 1, 1], 1), [15])
        self.assertEqual(carried([[1, 2, 3, 4, 5, 6]], [LONG], 6), [LONG * often for often in range(1, 7)])

    def test_noughts(self):
        for kinds in range(1, 7):
            for others in range(1, 7):
                table = [[7] * others for kind in range(kinds)]
                self.assertEqual(carried(table, [0] * kinds, others), [0] * others)
                for table_row, unit in zip(table, units(kinds)):
                    self.assertEqual(carried(table, unit, others), table_row)

    def test_by_chance(self):
        source = random.Random(91)
        for kinds, others in itertools.product(range(1, 7), repeat=2):
            table = [[of_figures(source, 30) for spot in range(others)] for kind in range(kinds)]
            basket = [of_figures(source, 30) for spot in range(kinds)]
            self.assertEqual(carried(table, basket, others), brought(table, basket, others))

    def test_what_is_handed_in_stays(self):
        self.assertTrue(asked_twice(carried, [[[1, 2], [3, 4]], [1, 0], 2]))
        table = [[1, 2]]
        told = carried(table, [1], 2)
        table[0][0] = 9
        self.assertEqual(told, [1, 2])

    def test_wrong_baskets(self):
        for kinds in range(1, 7):
            for wrong in wrong_baskets(kinds):
                with self.assertRaises(NoBasket, msg=repr(wrong)):
                    carried([[1, 2]] * kinds, wrong, 2)


class SoundAndPulledTest(unittest.TestCase):
    def check_pulled(self, one, table, other):
        told = pulled(one, table, other)
        self.assertEqual([type(told), len(told), told[0], type(told[1])], [tuple, 2, one[0], tuple])
        self.assertTrue(all(type(bill) is tuple for bill in told[1]))
        self.assertEqual([tuple(row) for row in stair(told)], list(told[1]))
        for bill in told[1]:
            self.assertEqual(token(other, brought(table, bill, other[0])), [0] * other[0])
        return told

    def test_alike_just_where_carried_to_alike_ones(self):
        source = random.Random(92)
        for one, other in some_pairs(92):
            for size in [1, 5, 10 ** 12]:
                table = some_table(source, one, other, size)
                told = self.check_pulled(one, table, other)
                ways = units(one[0]) + [some_row(source, one[0], 4)] + [times(unit, how_many(other) or 2) for unit in units(one[0])]
                for way in ways:
                    there = brought(table, way, other[0])
                    self.assertEqual(alike(told, way, [0] * one[0]), alike(other, there, [0] * other[0]))

    def test_every_basket_of_a_square(self):
        source = random.Random(93)
        for turn in range(30):
            one = hall_of(2, [])
            other = some_hall(source, source.randrange(1, 4), source.randrange(4), 6)
            table = some_table(source, one, other, 4)
            told = self.check_pulled(one, table, other)
            for way in itertools.product(range(-7, 8), repeat=2):
                there = brought(table, way, other[0])
                self.assertEqual(alike(told, list(way), [0, 0]), alike(other, there, [0] * other[0]))

    def test_told_halls(self):
        self.assertEqual(pulled(hall_of(1, [[5]]), [[2]], hall_of(1, [[6]])), (1, ((3,),)))
        self.assertEqual(pulled(hall_of(2, []), [[1], [1]], hall_of(1, [])), (2, ((1, -1),)))
        self.assertEqual(pulled(hall_of(2, []), [[0], [0]], hall_of(1, [])), (2, ((1, 0), (0, 1))))
        self.assertEqual(pulled(hall_of(1, [[7]]), [[1, 0]], hall_of(2, [[0, 1]])), (1, ()))

    def test_ones_bills_do_not_matter(self):
        source = random.Random(94)
        for one, other in some_pairs(94)[:40]:
            table = some_table(source, one, other, 5)
            self.assertEqual(pulled(one, table, other), pulled((one[0], ()), table, other))

    def test_sound_just_where_bills_come_to_nought(self):
        source = random.Random(95)
        seen = []
        for one, other in some_pairs(95):
            for table in [some_table(source, one, other, 2), [[0] * other[0]] * one[0]]:
                wanted = all(alike(other, brought(table, bill, other[0]), [0] * other[0]) for bill in one[1])
                self.assertIs(sound(one, table, other), wanted)
                seen.append(wanted)
                self.assertIs(sound(pulled(one, table, other), table, other), True)
            self.assertIs(sound(one, units(one[0]), one), True)
            self.assertIs(sound(met(one, one), units(one[0]), one), True)
        self.assertEqual(set(seen), {True, False})

    def test_told_sound(self):
        self.assertIs(sound(hall_of(1, [[4]]), [[3]], hall_of(1, [[6]])), True)
        self.assertIs(sound(hall_of(1, [[4]]), [[2]], hall_of(1, [[6]])), False)
        self.assertIs(sound(hall_of(1, []), [[2]], hall_of(1, [[6]])), True)
        self.assertIs(sound(hall_of(2, [[1, -2]]), [[2], [1]], hall_of(1, [])), True)
        self.assertIs(sound(hall_of(2, [[1, -2]]), [[2], [2]], hall_of(1, [])), False)

    def test_pulled_halls_are_taken_as_others(self):
        source = random.Random(96)
        for one, other in some_pairs(96)[-20:]:
            told = pulled(one, some_table(source, one, other, LONG), other)
            basket = some_row(source, one[0], 99)
            self.assertEqual(place(told, basket_at(told, place(told, basket))), place(told, basket))
            self.assertEqual(joined(told, told), told)
            self.assertEqual(met(told, told), told)

    def test_unlike_tables(self):
        for kinds, others in [(1, 1), (2, 3), (3, 2), (6, 1), (1, 6)]:
            one, other = hall_of(kinds, [[1] * kinds]), hall_of(others, [[1] * others])
            good = [[0] * others for kind in range(kinds)]
            wrong = [tuple(good), None, 0, 12, "", "ab", {}, dict(enumerate(good)), True, good + [[0] * others], good[:-1]]
            wrong += [good[:-1] + [row] for row in wrong_baskets(others)]
            wrong += [[row] + good[1:] for row in wrong_baskets(others)]
            for table in wrong:
                for ask in [sound, pulled]:
                    with self.assertRaises(Unlike, msg=repr(table)):
                        ask(one, table, other)
                    with self.assertRaises(Unlike, msg=repr(table)):
                        ask(hall_of(kinds, []), table, hall_of(others, []))

    def test_what_is_handed_in_stays(self):
        hall, other = hall_of(2, [[3, -1], [0, 4]]), hall_of(3, [[1, 2, 3]])
        for ask in [sound, pulled]:
            self.assertTrue(asked_twice(ask, [hall, [[1, 2, 3], [0, 1, 1]], other]))
        table = [[1, 2, 3], [0, 1, 1]]
        told = pulled(hall, table, other)
        table[0][0] = 7
        table.append([1])
        self.assertEqual(told, pulled(hall, [[1, 2, 3], [0, 1, 1]], other))


class ShapeTest(unittest.TestCase):
    def check_none(self, one, other):
        self.assertIs(one_shape(one, other), False)
        self.assertIsNone(table_to(one, other))

    # As an onto table that keeps unlike classes apart has just one's bills pulled back, and reaches every good.
    def check_table(self, one, other):
        self.assertIs(one_shape(one, other), True)
        table = table_to(one, other)
        self.assertEqual([type(table), len(table)], [list, one[0]])
        self.assertTrue(all(type(row) is list and len(row) == other[0] for row in table))
        self.assertTrue(all(type(number) is int for row in table for number in row))
        self.assertIs(sound(one, table, other), True)
        self.assertEqual([list(bill) for bill in pulled(one, table, other)[1]], stair(one))
        reached = (other[0], tuple(map(tuple, table)) + other[1])
        self.assertEqual(stair(reached), units(other[0]))

    def test_with_itself_and_others_of_its_shape(self):
        source = random.Random(97)
        for hall in small_halls(97) + long_halls(97) + edge_halls():
            self.check_table(hall, hall)
            for other in others_of_shape(source, hall):
                self.check_table(hall, other)
                self.check_table(other, hall)

    def test_just_where_parts_other_than_1_are_equal(self):
        halls = small_halls(98, each=1) + edge_halls()
        for one, other in itertools.product(halls[::3] + edge_halls(), halls[::5] + edge_halls()):
            if [part for part in parts(one) if part != 1] == [part for part in parts(other) if part != 1]:
                self.check_table(one, other)
            else:
                self.check_none(one, other)

    def test_told_shapes(self):
        self.check_table(hall_of(2, [[2, 0], [0, 3]]), hall_of(1, [[6]]))
        self.check_table(hall_of(1, [[1]]), hall_of(6, units(6)))
        self.check_table(hall_of(6, units(6)), hall_of(1, [[1]]))
        self.check_table(hall_of(1, []), hall_of(2, [[1, -200]]))
        self.check_table(hall_of(2, [[0, 4]]), hall_of(3, [[1, 0, 0], [0, 0, 4]]))
        self.check_none(hall_of(2, [[2, 0], [0, 2]]), hall_of(1, [[4]]))
        self.check_none(hall_of(1, []), hall_of(2, []))
        self.check_none(hall_of(1, [[1]]), hall_of(1, []))
        self.check_none(hall_of(2, [[0, 4]]), hall_of(2, [[0, 2]]))

    def test_classes_one_by_one(self):
        one, other = hall_of(2, [[4, 0], [0, 6]]), hall_of(3, [[2, 0, 1], [0, 12, 0], [0, 0, 1]])
        table = table_to(one, other)
        baskets = [basket_at(one, list(numbers)) for numbers in itertools.product(*map(range, parts(one)))]
        there = {tuple(token(other, brought(table, basket, 3))) for basket in baskets}
        self.assertEqual([len(there), how_many(other)], [24, 24])

    def test_what_is_handed_in_stays(self):
        for hall in edge_halls():
            for other in others_of_shape(random.Random(99), hall):
                self.assertTrue(asked_twice(table_to, [hall, other]))
                self.assertEqual(led(hall, [0] * hall[0], [0] * len(hall[1])), [0] * hall[0])


if __name__ == "__main__":
    unittest.main()
