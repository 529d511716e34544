import random
import unittest

from changehall.errors import NoBasket, NoText
from changehall.halls import hall_of
from changehall.several import joined, met
from changehall.tables import pulled
from changehall.texts import read, read_basket, shown, shown_basket

from helper import LONG, edge_halls, long_halls, of_figures, small_halls, some_row, units, wrong_baskets

NO_TEXTS = [None, 0, 2, True, ["2"], ("2",), {"2": 1}, b"2", 2.0, []]
# In the place of a number that would do: nothing of this is one.
NO_NUMBERS = ["", "+1", "01", "00", "-0", "-01", "-00", "-", "--1", "1-", "a", "1a", "a1", "1.0", ".", "1,", "1e3", "0x1",
              "1_0", " 1", "1 ", "\u0661", "\u00b2", "\uff11", "\u0967", "\u22121", "\t1", "1\n", "\n", "/", "1/", "/1", "\u00a0",
              "1" + "0" * 30, "-1" + "0" * 30, "9" * 31, "1" * 5000, "-" + "1" * 5000, "0" * 31, "None", "True", "()"]


class ShownTest(unittest.TestCase):
    def test_told(self):
        self.assertEqual(shown(hall_of(2, [[3, -1], [0, 4]])), "2 / 3 -1 / 0 4")
        self.assertEqual(shown(hall_of(6, [])), "6")
        self.assertEqual(shown(hall_of(1, [[0]])), "1 / 0")
        self.assertEqual(shown(hall_of(1, [[-LONG]])), "1 / -" + "9" * 30)
        self.assertIs(type(shown(hall_of(6, []))), str)

    def test_by_pythons_own_figures(self):
        for hall in edge_halls() + small_halls(141) + long_halls(141):
            wanted = " / ".join([str(hall[0])] + [" ".join(map(str, bill)) for bill in hall[1]])
            self.assertEqual(shown(hall), wanted)

    def test_halls_with_greater_numbers(self):
        one, other = [hall for hall in long_halls(142) if hall[0] == 6][1:3]
        for hall in [joined(one, other), met(one, other), pulled(one, [[LONG] * 6] * 6, other)]:
            self.assertEqual(shown(hall), " / ".join(["6"] + [" ".join(map(str, bill)) for bill in hall[1]]))

    # Python writes no number of more than 4300 figures by itself.
    def test_numbers_of_thousands_of_figures(self):
        for many in [63, 64, 65, 127, 128, 129, 4300, 4301, 9999]:
            self.assertEqual(shown((1, ((10 ** many,),))), "1 / 1" + "0" * many)
            self.assertEqual(shown((1, ((-10 ** many,),))), "1 / -1" + "0" * many)
            self.assertEqual(shown((1, ((10 ** many - 1,),))), "1 / " + "9" * many)
            self.assertEqual(shown_basket(hall_of(2, []), [10 ** many + 7, 0]), "1" + "0" * (many - 1) + "7 0")

    def test_a_met_hall_with_numbers_of_thousands_of_figures(self):
        source = random.Random(143)
        hall = hall_of(1, [[of_figures(source, 30)]])
        while hall[1][0][0] < 10 ** 5000:
            hall = met(hall, hall_of(1, [[of_figures(source, 30)]]))
        text = shown(hall)
        self.assertTrue(text.startswith("1 / "))
        number = 0
        for piece in text[4:]:
            number = 10 * number + "0123456789".index(piece)
        self.assertEqual(number, hall[1][0][0])


class ReadTest(unittest.TestCase):
    def refused(self, line):
        with self.assertRaises(NoText, msg=repr(line)):
            read(line)

    def test_leads_back(self):
        for hall in edge_halls() + small_halls(144) + long_halls(144):
            told = read(shown(hall))
            self.assertEqual(told, hall)
            self.assertEqual([type(told), type(told[1])], [tuple, tuple])
            self.assertTrue(all(type(bill) is tuple for bill in told[1]))
        for kinds in range(1, 7):
            for bills in [[], [[LONG] * kinds] * 8, [[-LONG] * kinds], [[0] * kinds]]:
                self.assertEqual(read(shown(hall_of(kinds, bills))), hall_of(kinds, bills))

    def test_told(self):
        self.assertEqual(read("2 / 3 -1 / 0 4"), (2, ((3, -1), (0, 4))))
        self.assertEqual(read("6"), (6, ()))
        self.assertEqual(read("1 / 0"), (1, ((0,),)))
        self.assertEqual(read("1 / -10"), (1, ((-10,),)))

    def test_no_text(self):
        for line in NO_TEXTS:
            self.refused(line)

    def test_another_sign_ahead_within_or_behind(self):
        line = "2 / 3 -1 / 0 4"
        for sign in [" ", "  ", "\n", "\t", "/", " /", "/ ", " / ", "+", "-", "a", ".", ",", "\u0663", "\u00a0", "\r", "\x00"]:
            for spot in range(len(line) + 1):
                changed = line[:spot] + sign + line[spot:]
                if not self.still_right(changed):
                    self.refused(changed)

    def test_a_sign_less(self):
        line = "2 / 3 -1 / 0 4"
        for spot in range(len(line)):
            changed = line[:spot] + line[spot + 1:]
            if not self.still_right(changed):
                self.refused(changed)

    # Changes that lead to another hall's text: a sign put in ahead of a number, or left out there.
    def still_right(self, line):
        return line in ["2 / -3 -1 / 0 4", "2 / 3 -1 / 0 -4", "2 / 3 1 / 0 4"]

    def test_a_number_that_is_none(self):
        for wrong in NO_NUMBERS:
            for line in [f"{wrong}", f"{wrong} / 1 2", f"2 / {wrong} 1", f"2 / 1 {wrong}", f"2 / 1 2 / {wrong} 1",
                         f"2 / 1 2 / 1 {wrong}", f"1 / {wrong}"]:
                self.refused(line)

    def test_a_number_more_or_less(self):
        for line in ["2 / 1", "2 / 1 2 3", "2 / 1 2 / 1", "2 / 1 / 1 2", "2 / 1 2 / 1 2 3", "1 / 1 1", "1 / ", "1 /",
                     "6 / 1 1 1 1 1", "2 1 2", "2 1", "/ 1 2", " / 1 2", "2 / 1 2 /", "2 / 1 2 / ", "2 / / 1 2", "2 //"]:
            self.refused(line)

    def test_kinds_bills_and_numbers_beyond(self):
        for kinds in [0, 7, 8, 10, -1, 10 ** 29, LONG]:
            self.refused(str(kinds))
        self.refused("0 / ")
        self.refused("7 / 1 1 1 1 1 1 1")
        self.assertEqual(len(read("1" + " / 5" * 8)[1]), 8)
        self.refused("1" + " / 5" * 9)
        self.refused("1" + " / 5" * 5000)
        self.assertEqual(read("1 / " + "9" * 30), (1, ((LONG,),)))
        self.assertEqual(read("1 / -" + "9" * 30), (1, ((-LONG,),)))
        self.refused("1 / 1" + "0" * 30)
        self.refused("1 / -1" + "0" * 30)

    def test_empty_and_blank(self):
        for line in ["", " ", "  ", "\n", "/", " / ", "-", "2 ", " 2", "2\n", "\n2", "2 / 1 2\n", "2 / 1 2 ", " 2 / 1 2"]:
            self.refused(line)


class BasketTextsTest(unittest.TestCase):
    def refused(self, hall, line):
        with self.assertRaises(NoText, msg=repr(line)):
            read_basket(hall, line)

    def test_told(self):
        hall = hall_of(3, [[1, 2, 3]])
        self.assertEqual(shown_basket(hall, [0, -12, LONG]), "0 -12 " + "9" * 30)
        self.assertEqual(read_basket(hall, "0 -12 7"), [0, -12, 7])
        self.assertIs(type(read_basket(hall, "0 -12 7")), list)

    def test_leads_back(self):
        source = random.Random(145)
        for kinds in range(1, 7):
            for size in [0, 9, LONG]:
                basket = some_row(source, kinds, size)
                self.assertEqual(shown_basket(hall_of(kinds, []), basket), " ".join(map(str, basket)))
                self.assertEqual(read_basket(hall_of(kinds, []), shown_basket(hall_of(kinds, []), basket)), basket)

    def test_30_figures_are_read_and_31_are_not(self):
        hall = hall_of(2, [[1, 1]])
        self.assertEqual(read_basket(hall, "9" * 30 + " -" + "9" * 30), [LONG, -LONG])
        self.refused(hall, "1" + "0" * 30 + " 1")
        self.refused(hall, "1 -1" + "0" * 30)

    def test_no_text(self):
        for line in NO_TEXTS + [[1, 2], "", " ", "1", "1 2 3", "1  2", " 1 2", "1 2 ", "1 2\n", "1\n2", "1 / 2", "1/2", "2 / 1 2"]:
            self.refused(hall_of(2, [[1, 1]]), line)
        for wrong in NO_NUMBERS:
            for line in [f"{wrong} 1", f"1 {wrong}"]:
                self.refused(hall_of(2, []), line)
            self.refused(hall_of(1, []), wrong)

    def test_one_number_more_or_less(self):
        for kinds in range(1, 7):
            hall = hall_of(kinds, units(kinds))
            self.assertEqual(read_basket(hall, " ".join(["5"] * kinds)), [5] * kinds)
            self.refused(hall, " ".join(["5"] * (kinds + 1)))
            self.refused(hall, " ".join(["5"] * (kinds - 1)))

    def test_wrong_baskets(self):
        for kinds in range(1, 7):
            for wrong in wrong_baskets(kinds):
                with self.assertRaises(NoBasket, msg=repr(wrong)):
                    shown_basket(hall_of(kinds, []), wrong)


if __name__ == "__main__":
    unittest.main()
