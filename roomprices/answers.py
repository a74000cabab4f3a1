"""The answers that the program tells; each can show whether it is right.

An answer's fields are lists of its own, which the asker may change: so shows goes by what they hold when it is asked.
"""

from roomprices.rings import is_ring, room_gains
from roomprices.tables import is_asked, is_numbers, is_row, prices_fit


class Answer:
    """What is told of a table and a rent."""


class Priced(Answer):
    """Prices that fit a giving and a rent."""

    def __init__(self, prices):
        self.prices = list(prices)

    def shows(self, table, rent, giving):
        """Whether the prices fit the giving and the rent."""
        if not is_asked(table, rent, giving) or not is_row(self.prices, len(table)):
            return False
        return prices_fit(table, rent, giving, self.prices)


class Ring(Answer):
    """People who say more, all together, of the next one's room than of the own one: so no prices fit."""

    def __init__(self, people):
        self.people = list(people)

    def shows(self, table, rent, giving):
        """Whether the people are a ring that bars prices for the giving, whatever the rent."""
        if not is_asked(table, rent, giving) or not is_numbers(self.people):
            return False
        return is_ring(room_gains(table, giving), self.people)


class Settled(Answer):
    """A giving and prices that fit it and a rent."""

    def __init__(self, rooms, prices):
        self.rooms = list(rooms)
        self.prices = list(prices)

    def shows(self, table, rent):
        """Whether the rooms are a giving, and the prices fit it and the rent."""
        if not is_asked(table, rent, self.rooms) or not is_row(self.prices, len(table)):
            return False
        return prices_fit(table, rent, self.rooms, self.prices)
