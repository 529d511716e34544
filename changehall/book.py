"""A book of bills that are put in, dropped, and taken back."""
from changehall.errors import NoHall, NoPlace
from changehall.halls import MOST_BILLS, hall_by, need_bill, need_kinds
from changehall.rows import is_whole


# A list of bills is never changed but replaced, so that the earlier ones stay as they stood.
class Book:
    def __init__(self, kinds):
        need_kinds(kinds)
        self.kinds = kinds
        self.bills = []
        self.earlier = []

    def turn_to(self, bills):
        self.earlier.append(self.bills)
        self.bills = bills

    def hand_in(self, bill):
        need_bill(bill, self.kinds)
        if len(self.bills) >= MOST_BILLS:
            raise NoHall("the book has eight bills")
        self.turn_to(self.bills + [tuple(bill)])

    def drop(self, place):
        if not is_whole(place) or not 0 <= place < len(self.bills):
            raise NoPlace("no bill stands at this place")
        self.turn_to(self.bills[:place] + self.bills[place + 1:])

    def take_back(self):
        if len(self.earlier) == 0:
            raise NoPlace("nothing stands that could be taken back")
        self.bills = self.earlier.pop()

    def hall(self):
        return hall_by(self.kinds, self.bills)
