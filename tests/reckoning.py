"""What the tests reckon on their own, straight from the document, and wrong inputs of every kind."""

from fractions import Fraction
from itertools import permutations, product
from random import Random


def fits(table, rent, giving, prices):
    """Point 2, word by word, with prices as fractions of the rent's unit."""
    count = len(table)
    real = [Fraction(price, count) for price in prices]
    if sum(real) != rent:
        return False
    for person in range(count):
        own = giving[person]
        for other in range(count):
            if table[person][own] - real[own] < table[person][other] - real[other]:
                return False
    return True


def bars(table, giving, people):
    """Whether these people are a ring as point 3 tells."""
    count = len(table)
    if not people or len(set(people)) < len(people) or any(one not in range(count) for one in people):
        return False
    taken = said = 0
    for place, one in enumerate(people):
        taker = people[place - 1]
        taken += table[taker][giving[one]]
        said += table[one][giving[one]]
    return taken > said


def all_rings(table, giving):
    count = len(table)
    return [list(people) for size in range(1, count + 1) for people in permutations(range(count), size)
            if bars(table, giving, list(people))]


def givings(count):
    return [list(rooms) for rooms in permutations(range(count))]


def total(table, giving):
    return sum(table[person][giving[person]] for person in range(len(table)))


def greatest_total(table):
    return max(total(table, giving) for giving in givings(len(table)))


def all_prices(table, rent, giving, reach):
    """All prices that fit, each no further than reach from the rent."""
    count = len(table)
    found = []
    for first in product(range(rent - reach, rent + reach + 1), repeat=count - 1):
        prices = [*first, count * rent - sum(first)]
        if fits(table, rent, giving, prices):
            found.append(prices)
    return found


def extremes(table, rent, giving, room):
    """The least and the greatest price, from all ways of rooms to go, none twice."""
    count = len(table)
    owner = {giving[person]: person for person in range(count)}

    def dearer(start, end):
        """By how much the end is dearer than the start, at least."""
        between = [other for other in range(count) if other not in (start, end)]
        gains = []
        for size in range(len(between) + 1):
            for middle in permutations(between, size):
                way = [start, *middle, end]
                gains.append(sum(table[owner[a]][b] - table[owner[a]][a] for a, b in zip(way, way[1:])))
        return max(gains)

    others = [other for other in range(count) if other != room]
    least = rent + sum(dearer(other, room) for other in others)
    return least, rent - sum(dearer(room, other) for other in others)


def tables(seed, many, sizes=(1, 2, 3, 4), spans=(1, 3, 10 ** 3, 10 ** 30)):
    """Tables of these sizes with worths of any sign, and a rent for each."""
    chance = Random(seed)
    found = []
    for _ in range(many):
        count = chance.choice(sizes)
        span = chance.choice(spans)
        table = [[chance.randint(-span, span) for _ in range(count)] for _ in range(count)]
        found.append((table, chance.randint(-3 * span, 3 * span)))
    return found


def is_whole(thing):
    return type(thing) is int


class Odd:
    """A thing that says that it is equal to all."""

    def __eq__(self, other):
        return True

    __hash__ = None


NO_NUMBERS = [None, True, False, "1", "", b"1", 1.0, 0.0, float("nan"), float("inf"), 1j, Fraction(1), [], [1], (), (1,),
              {}, {1: 1}, range(1), Odd(), int, object()]
NO_LISTS = [None, True, False, 0, 1, 2, -1, 10 ** 500, "", "01", b"01", 1.5, (), (0, 1), ((1, 2), (3, 4)), {}, {0: 1, 1: 0},
            range(2), Odd(), list, object(), iter([0, 1])]

BAD_TABLES = [
    *NO_LISTS, [], [[]], [[], []], [[1, 2]], [[1], [2]], [[1, 2], [3]], [[1], [2, 3]], [[1, 2, 3], [4, 5, 6]],
    [[1, 2], [3, 4], [5, 6]], [1], [1, 2], [[1, 2], None], [[1, 2], (3, 4)], [(1, 2), [3, 4]], ["12", "34"], [[1, 2], "34"],
    [[1, 2], {0: 1, 1: 2}], [[1, 2], range(2)], [[[1], [2]], [[3], [4]]], [[1, 2], [3, [4]]], [[1] * 13 for _ in range(13)],
    [[1] * 20 for _ in range(20)], [[1] * 12 for _ in range(13)], [[1] * 13 for _ in range(12)],
    *[[[thing]] for thing in NO_NUMBERS], *[[[1, 2], [3, thing]] for thing in NO_NUMBERS],
    *[[[thing, 1], [2, 3]] for thing in NO_NUMBERS],
]
BAD_RENTS = NO_NUMBERS
# Of two people.
BAD_GIVINGS = [
    *NO_LISTS, [], [0], [1], [0, 0], [1, 1], [0, 2], [2, 1], [1, 2], [-1, 0], [0, -1], [-2, -1], [0, 1, 2], [0, 1, 1], [1, 0, 0],
    [0, 10 ** 500], [0, None], [0, True], [False, 1], [False, True], [True, 0], [0.0, 1], [0, "1"], ["0", "1"], [[0], [1]],
    [[0, 1]], [Odd(), Odd()], [0, Odd()], [(0, 1)], [0, [1]],
]
BAD_PRICES = [
    *NO_LISTS, [], [0], [6], [3, 2, 1], [0, 6, 0], [[3, 3]], *[[thing, 3] for thing in NO_NUMBERS],
    *[[3, thing] for thing in NO_NUMBERS],
]
BAD_ROOMS = [*NO_NUMBERS, -1, -2, 2, 3, 12, 10 ** 500, -10 ** 500]
