import random
import unittest

from changehall.book import Book
from changehall.errors import NoHall, NoPlace
from changehall.halls import hall_of
from changehall.plans import plan

from helper import LONG, some_row


def book_with(kinds, bills):
    book = Book(kinds)
    for bill in bills:
        book.hand_in(bill)
    return book


class BookTest(unittest.TestCase):
    def refused(self, error, deed, *given):
        with self.assertRaises(error, msg=repr(given)):
            deed(*given)

    def test_bills_put_behind(self):
        book = Book(2)
        self.assertEqual(book.hall(), (2, ()))
        self.assertIsNone(book.hand_in([3, -1]))
        self.assertEqual(book.hall(), hall_of(2, [[3, -1]]))
        self.assertIsNone(book.hand_in([0, 4]))
        self.assertEqual(book.hall(), hall_of(2, [[3, -1], [0, 4]]))
        self.assertEqual(plan(book.hall(), [1, 1], [7, 3]), [2, 1])
        self.assertEqual([type(book.hall()), type(book.hall()[1]), type(book.hall()[1][0])], [tuple] * 3)

    def test_dropped_at_any_place_and_taken_back_there(self):
        bills = [[1], [2], [3], [4]]
        for place in range(4):
            book = book_with(1, bills)
            self.assertIsNone(book.drop(place))
            self.assertEqual(book.hall(), hall_of(1, bills[:place] + bills[place + 1:]))
            self.assertIsNone(book.take_back())
            self.assertEqual(book.hall(), hall_of(1, bills))

    def test_taken_back_up_to_the_beginning(self):
        book = book_with(1, [[1], [2]])
        book.drop(0)
        book.hand_in([3])
        stands = []
        for turn in range(4):
            book.take_back()
            stands.append([bill[0] for bill in book.hall()[1]])
        self.assertEqual(stands, [[2], [1, 2], [1], []])
        self.refused(NoPlace, book.take_back)
        self.refused(NoPlace, book.take_back)
        self.assertEqual(book.hall(), (1, ()))
        book.hand_in([5])
        book.take_back()
        self.refused(NoPlace, book.take_back)

    def test_deeds_between_are_what_is_taken_back_next(self):
        book = book_with(1, [[1], [2], [3]])
        book.take_back()
        book.hand_in([4])
        book.drop(0)
        book.take_back()
        self.assertEqual(book.hall(), hall_of(1, [[1], [2], [4]]))
        book.take_back()
        self.assertEqual(book.hall(), hall_of(1, [[1], [2]]))
        book.take_back()
        self.assertEqual(book.hall(), hall_of(1, [[1]]))

    # Against a list that is kept beside the book, with refused deeds among them.
    def test_by_chance(self):
        source = random.Random(151)
        for turn in range(60):
            kinds = source.randrange(1, 7)
            book = Book(kinds)
            stands = [[]]
            for deed in range(60):
                self.one_deed(source, book, stands, kinds)
                self.assertEqual(book.hall(), hall_of(kinds, stands[-1]))

    def one_deed(self, source, book, stands, kinds):
        bills = stands[-1]
        choice = source.randrange(8)
        if choice < 3:
            bill = some_row(source, kinds, 9)
            if len(bills) == 8:
                self.refused(NoHall, book.hand_in, bill)
            else:
                self.assertIsNone(book.hand_in(bill))
                stands.append(bills + [bill])
        elif choice < 5:
            place = source.randrange(-1, 9)
            if 0 <= place < len(bills):
                self.assertIsNone(book.drop(place))
                stands.append(bills[:place] + bills[place + 1:])
            else:
                self.refused(NoPlace, book.drop, place)
        elif choice < 7:
            if len(stands) == 1:
                self.refused(NoPlace, book.take_back)
            else:
                self.assertIsNone(book.take_back())
                stands.pop()
        else:
            self.refused(NoHall, book.hand_in, tuple([1] * kinds))

    def test_kinds_that_are_none(self):
        for kinds in [0, 7, -1, True, False, "2", None, [2], (2,), 2.0, 10 ** 40]:
            self.refused(NoHall, Book, kinds)
        for kinds in range(1, 7):
            self.assertEqual(Book(kinds).hall(), (kinds, ()))

    def test_a_bill_that_is_none(self):
        wrong = [(1, 2), None, 0, 12, "12", {}, {0: 1, 1: 2}, [], [1], [1, 2, 3], [[1, 2]], True, {1, 2}]
        for number in [True, False, "1", None, 1.0, 10 ** 30, -10 ** 30, [1]]:
            wrong += [[number, 1], [1, number]]
        for bill in wrong:
            for book in [Book(2), book_with(2, [[1, 1]])]:
                before = book.hall()
                self.refused(NoHall, book.hand_in, bill)
                self.assertEqual(book.hall(), before)
        book = book_with(2, [[LONG, -LONG]])
        self.assertEqual(book.hall(), (2, ((LONG, -LONG),)))

    def test_a_ninth_bill(self):
        book = book_with(1, [[often] for often in range(8)])
        self.refused(NoHall, book.hand_in, [8])
        self.assertEqual(book.hall(), hall_of(1, [[often] for often in range(8)]))
        book.drop(3)
        book.hand_in([9])
        self.assertEqual([bill[0] for bill in book.hall()[1]], [0, 1, 2, 4, 5, 6, 7, 9])
        self.refused(NoHall, book.hand_in, [8])
        book.take_back()
        book.take_back()
        self.assertEqual([bill[0] for bill in book.hall()[1]], [0, 1, 2, 3, 4, 5, 6, 7])

    def test_a_place_that_is_none(self):
        for many in range(3):
            book = book_with(1, [[5]] * many)
            for place in [-1, -many - 1, many, many + 1, 10 ** 40, -10 ** 40, True, False, "0", None, 0.0, [0], (0,), {}]:
                self.refused(NoPlace, book.drop, place)
                self.assertEqual(book.hall(), hall_of(1, [[5]] * many))

    def test_a_refused_deed_is_not_what_is_taken_back(self):
        book = book_with(1, [[1], [2]])
        self.refused(NoHall, book.hand_in, [1, 2])
        self.refused(NoPlace, book.drop, 2)
        book.take_back()
        self.assertEqual(book.hall(), hall_of(1, [[1]]))
        book.take_back()
        self.refused(NoPlace, book.take_back)
        self.refused(NoHall, book.hand_in, None)
        self.refused(NoPlace, book.drop, 0)
        self.refused(NoPlace, book.take_back)
        self.assertEqual(book.hall(), (1, ()))

    def test_nothing_handed_in_is_kept_or_changed(self):
        bill = [1, 2]
        book = book_with(2, [bill])
        self.assertEqual(bill, [1, 2])
        bill[0] = 9
        bill.append(3)
        self.assertEqual(book.hall(), hall_of(2, [[1, 2]]))

    def test_what_hall_told_stays(self):
        book = book_with(2, [[1, 2]])
        told = book.hall()
        book.hand_in([3, 4])
        later = book.hall()
        book.drop(0)
        book.take_back()
        book.take_back()
        self.assertEqual([told, later], [(2, ((1, 2),)), (2, ((1, 2), (3, 4)))])

    def test_two_books_do_not_touch(self):
        one, other = Book(1), Book(1)
        one.hand_in([1])
        self.assertEqual(other.hall(), (1, ()))
        self.refused(NoPlace, other.take_back)
        self.refused(NoPlace, other.drop, 0)
        other.hand_in([2])
        one.take_back()
        self.assertEqual([one.hall(), other.hall()], [(1, ()), (1, ((2,),))])


if __name__ == "__main__":
    unittest.main()
