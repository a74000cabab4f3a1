"""Tables, rents, givings and prices: what is one, what is refused, and whether prices fit.

No refusal tells the number that it refuses: Python itself fails to write out very long numbers.
"""

from roomprices.errors import BadGiving, BadPrices, BadRent, BadRoom, BadTable

MOST_PEOPLE = 12


def is_number(thing):
    """Whether the thing is a whole number; True and False are none."""
    return isinstance(thing, int) and not isinstance(thing, bool)


def is_place(thing, count):
    """Whether the thing is the count of a person or a room, where there are so many."""
    return is_number(thing) and 0 <= thing < count


def is_numbers(thing):
    """Whether the thing is a list of whole numbers."""
    return isinstance(thing, list) and all([is_number(one) for one in thing])


def is_row(thing, count):
    """Whether the thing is a list of so many whole numbers: a row of a table, or prices."""
    return is_numbers(thing) and len(thing) == count


def is_table(thing):
    """Whether the thing is a table."""
    if not isinstance(thing, list) or not 1 <= len(thing) <= MOST_PEOPLE:
        return False
    return all([is_row(row, len(thing)) for row in thing])


def is_giving(thing, count):
    """Whether the thing is a giving for so many people."""
    return is_row(thing, count) and sorted(thing) == list(range(count))


def is_asked(table, rent, giving):
    """Whether the three are a table, a rent and a giving for that table."""
    return is_table(table) and is_number(rent) and is_giving(giving, len(table))


def check_table(table):
    """Refuse what is no table."""
    if not is_table(table):
        raise BadTable("a table is a list of 1 to 12 lists, each of as many whole numbers as there are lists")


def check_rent(rent):
    """Refuse what is no rent."""
    if not is_number(rent):
        raise BadRent("a rent is a whole number")


def check_giving(giving, count):
    """Refuse what is no giving for so many people."""
    if not is_giving(giving, count):
        raise BadGiving("a giving is a list of a room for each of the people, each room once")


def check_prices(prices, count):
    """Refuse what are no prices of so many rooms."""
    if not is_row(prices, count):
        raise BadPrices("prices are a list of a whole number for each room")


def check_room(room, count):
    """Refuse what is no count of one of so many rooms."""
    if not is_place(room, count):
        raise BadRoom("a room is a whole number from 0 to one less than the count of rooms")


def is_content(row, room, prices):
    """Whether the one who says the row would not rather have another room than this one.

    Prices are parts of the rent's unit, of which it has as many as there are people: so worths are counted in these.
    """
    count = len(row)
    own = row[room] * count - prices[room]
    return all([row[other] * count - prices[other] <= own for other in range(count)])


def prices_fit(table, rent, giving, prices):
    """Whether the prices fit, of a table, a rent, a giving and prices that are known to be such."""
    if sum(prices) != rent * len(table):
        return False
    return all([is_content(row, room, prices) for row, room in zip(table, giving)])


def total_worth(table, giving):
    """What each says of the own room, together, of a table and a giving that are known to be such."""
    return sum([row[room] for row, room in zip(table, giving)])


def fit(table, rent, giving, prices):
    """Whether the prices fit the giving and the rent."""
    check_table(table)
    check_rent(rent)
    check_giving(giving, len(table))
    check_prices(prices, len(table))
    return prices_fit(table, rent, giving, prices)


def worth(table, giving):
    """What all rooms given are worth, together, each by the word of the one that it is given to."""
    check_table(table)
    check_giving(giving, len(table))
    return total_worth(table, giving)
