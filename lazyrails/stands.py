"""Stands: twins of a yard, and the shelf that keeps them."""

from lazyrails.errors import NoStand


def twin(yard):
    """Another yard that is like this one, but for its trail, which is empty."""
    return yard.make_twin()


class Shelf:
    """An empty shelf."""

    def __init__(self):
        # Counted apart from the stands that are there: no number comes again behind a dropping.
        self.next_stand = 0
        self.stands = {}

    def keep(self, yard):
        """Keeps the yard as it is now, and tells the number of the stand."""
        number = self.next_stand
        self.next_stand += 1
        self.stands[number] = twin(yard)
        return number

    def again(self, number):
        """The yard as it was at the keeping, as a yard of its own."""
        self.check_stand(number)
        return twin(self.stands[number])

    def drop(self, number):
        """Takes a stand off the shelf."""
        self.check_stand(number)
        del self.stands[number]

    def numbers(self):
        """The numbers of the stands that are there, rising."""
        # Stands are kept under rising numbers, and a dict keeps that order.
        return list(self.stands)

    def check_stand(self, number):
        """Refuses a stand that is not there."""
        if number not in self.stands:
            raise NoStand(f"no stand {number}")
