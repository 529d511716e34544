"""What the document promises over the whole program."""
import random
import unittest

from changehall.book import Book
from changehall.boxes import near
from changehall.classes import basket_at, how_many, order, parts, period, place
from changehall.errors import NoBasket, TooMany
from changehall.groups import groups, share
from changehall.halls import apart, done, hall_of, nought
from changehall.plans import alike, idle, idle_by, plan, settled
from changehall.primes import parted
from changehall.scales import denial, even, fair, judged, scales
from changehall.several import index_in, joined, met, within
from changehall.stairs import bills_by, stair, stair_by, token
from changehall.tables import carried, one_shape, pulled, sound, table_to
from changehall.texts import read, read_basket, shown, shown_basket
from changehall.thrift import classes, thrifty

from helper import (LONG, asked_twice, edge_halls, led, of_figures, plus, small_halls, some_row, units,
                    wrong_baskets)

OF_TWO = [apart, alike, plan, settled, denial, judged]
OF_ONE = [token, place, order, thrifty, parted, shown_basket,
          lambda hall, basket: done(hall, basket, [0] * len(hall[1])), lambda hall, basket: near(hall, basket, 0),
          lambda hall, basket: near(hall, basket, 10 ** 9)]
OF_HALLS = [nought, stair, stair_by, bills_by, idle, scales, parts, how_many, period, groups, shown]


# Halls that other functions told: greater numbers, fewer bills, none at all.
def told_halls(seed):
    source = random.Random(seed)
    found = []
    for kinds in range(1, 7):
        one, other = [hall_of(kinds, [[of_figures(source, 30) for spot in range(kinds)] for bill in range(many)])
                      for many in (kinds, 8)]
        few = hall_of(kinds, [[of_figures(source, 30) for spot in range(kinds)] for bill in range(max(1, kinds - 1))])
        table = [[of_figures(source, 30) for spot in range(kinds)] for kind in range(kinds)]
        found += [joined(one, few), met(one, few), met(met(one, few), one), pulled(one, table, met(one, few)),
                  pulled(few, table, few), met(hall_of(kinds, []), other), joined(met(one, other), few)]
        for hall in (one, met(one, few)):
            found += [share(hall, group) for group in groups(hall)]
    return found


class NoBasketTest(unittest.TestCase):
    def some_halls(self, kinds):
        full = hall_of(kinds, [[201 * number for number in row] for row in units(kinds)])
        return [hall_of(kinds, []), hall_of(kinds, [[1] * kinds] * 8), full, met(full, full)]

    def test_every_function_that_takes_one_basket(self):
        for kinds in range(1, 7):
            for hall in self.some_halls(kinds):
                for wrong in wrong_baskets(kinds):
                    for spot, ask in enumerate(OF_ONE):
                        with self.assertRaises(NoBasket, msg=repr((spot, wrong))):
                            ask(hall, wrong)

    def test_every_function_that_takes_two_on_either_side(self):
        for kinds in range(1, 7):
            for hall in self.some_halls(kinds):
                for wrong in wrong_baskets(kinds):
                    for ask in OF_TWO:
                        for pair in [(wrong, [0] * kinds), ([0] * kinds, wrong), (wrong, wrong)]:
                            with self.assertRaises(NoBasket, msg=repr((ask, pair))):
                                ask(hall, *pair)

    def test_without_a_hall_by_weights_and_tables(self):
        for kinds in range(1, 7):
            for wrong in wrong_baskets(kinds):
                for ask in [lambda: even(wrong, [0] * kinds, ([1] * kinds, 2)),
                            lambda: even([0] * kinds, wrong, ([1] * kinds, 2)), lambda: carried([[1]] * kinds, wrong, 1)]:
                    with self.assertRaises(NoBasket, msg=repr(wrong)):
                        ask()


class NothingChangedTest(unittest.TestCase):
    def check(self, ask, *handed_in):
        try:
            self.assertTrue(asked_twice(ask, list(handed_in)), (ask, handed_in))
        except TooMany:
            self.assertIn(ask, [classes, thrifty, parted])

    def test_nothing_handed_in_and_nothing_told_later(self):
        source = random.Random(161)
        for hall in edge_halls() + small_halls(161, each=1)[::3]:
            basket, other = some_row(source, hall[0], 9), some_row(source, hall[0], 9)
            for ask in OF_HALLS + [classes]:
                self.check(ask, hall)
            for ask in [token, place, order, thrifty, parted, shown_basket]:
                self.check(ask, hall, basket)
            for ask in OF_TWO:
                self.check(ask, hall, basket, other)
                self.check(ask, hall, basket, led(hall, basket, [2] * len(hall[1])))
            self.check(done, hall, basket, [1] * len(hall[1]))
            self.check(idle_by, hall, [0] * len(hall[1]))
            self.check(even, basket, other, (basket, 3))
            self.check(fair, hall, (basket, 3))
            self.check(basket_at, hall, place(hall, basket))
            self.check(near, hall, basket, 1)
            self.check_several(hall, small_halls(162, each=1)[source.randrange(50)], basket)

    def check_several(self, hall, other, basket):
        table = [[spot + kind for spot in range(other[0])] for kind in range(hall[0])]
        for ask in [sound, pulled]:
            self.check(ask, hall, table, other)
        for ask in [one_shape, table_to]:
            self.check(ask, hall, other)
        self.check(table_to, hall, hall)
        self.check(carried, table, basket, other[0])
        for ask in [joined, met, within, index_in]:
            self.check(ask, hall, hall)
        for group in groups(hall):
            self.check(share, hall, group)
        self.check(read, shown(hall))
        self.check(read_basket, hall, shown_basket(hall, basket))


class ToldHallsTest(unittest.TestCase):
    def test_taken_as_others(self):
        source = random.Random(163)
        for hall in told_halls(163):
            zero = [0] * hall[0]
            basket = some_row(source, hall[0], LONG)
            there = led(hall, basket, some_row(source, len(hall[1]), LONG))
            self.assertEqual(led(hall, basket, plan(hall, basket, there)), there)
            self.assertEqual(settled(hall, zero, apart(hall, basket, there)), settled(hall, basket, there))
            self.assertEqual(token(hall, basket), token(hall, there))
            self.assertEqual(basket_at(hall, place(hall, basket)) is not None, True)
            self.assertTrue(alike(hall, basket_at(hall, place(hall, basket)), basket))
            self.assertEqual(len(idle(hall)), len(hall[1]) - len(stair(hall)))
            self.assertEqual([led(hall, zero, uses) for uses in stair_by(hall)], stair(hall))
            self.assertEqual([led((hall[0], stair(hall)), zero, often) for often in bills_by(hall)], list(map(list, hall[1])))
            self.assertEqual(shown(hall), " / ".join([str(hall[0])] + [" ".join(map(str, bill)) for bill in hall[1]]))
            self.assertIn(zero, near(hall, zero, 1))
            self.assertEqual(met(hall, hall), joined(hall, hall))
            self.assertEqual(index_in(hall, hall), 1)
            self.assertTrue(sound(hall, table_to(hall, hall), hall))
            for unit in units(hall[0]):
                word, told = judged(hall, basket, plus(basket, unit))
                if word == "plan":
                    self.assertEqual(led(hall, basket, told), plus(basket, unit))
                else:
                    self.assertTrue(fair(hall, told) and not even(basket, plus(basket, unit), told) and told[1] >= 2)

    def test_a_book_tells_a_hall_like_others(self):
        book = Book(2)
        book.hand_in([6, 0])
        book.hand_in([0, 10])
        self.assertEqual([parts(book.hall()), how_many(book.hall()), period(book.hall())], [[2, 30], 60, 30])
        self.assertEqual(len(classes(book.hall())), 60)
        self.assertEqual(read(shown(book.hall())), book.hall())


if __name__ == "__main__":
    unittest.main()
