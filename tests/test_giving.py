"""giving.py: point 5: settled and most."""

import copy
import unittest
from random import Random
from time import perf_counter

from roomprices.answers import Priced, Settled
from roomprices.errors import BadRent, BadTable
from roomprices.giving import most, settled
from roomprices.pricing import told
from roomprices.tables import fit, worth

import reckoning

TABLE = [[5, 1], [2, 3]]
BIG = 10 ** 400


def greatest_by_rooms_taken(table):
    """The most by an own way that is quick enough for 12 people: the best for each set of rooms taken so far."""
    best = {0: 0}
    for row in table:
        grown = {}
        for taken, so_far in best.items():
            for room, said in enumerate(row):
                if not taken >> room & 1:
                    key = taken | 1 << room
                    grown[key] = max(grown.get(key, so_far + said), so_far + said)
        best = grown
    return best[2 ** len(table) - 1]


class Given(unittest.TestCase):
    def check(self, table, rent, greatest):
        answer = settled(table, rent)
        self.assertIs(type(answer), Settled)
        self.assertIs(answer.shows(table, rent), True)
        self.assertEqual(sorted(answer.rooms), list(range(len(table))))
        self.assertTrue(all(reckoning.is_whole(number) for number in answer.rooms + answer.prices))
        self.assertTrue(reckoning.fits(table, rent, answer.rooms, answer.prices))
        self.assertIs(fit(table, rent, answer.rooms, answer.prices), True)
        self.assertEqual(worth(table, answer.rooms), greatest)
        self.assertEqual(most(table), greatest)
        self.assertTrue(reckoning.is_whole(most(table)))
        self.assertIs(type(told(table, rent, answer.rooms)), Priced)

    def test_ordinary(self):
        self.check(TABLE, 3, 8)
        self.check([[1, 5], [3, 2]], 3, 8)
        self.check([[7, 4, 3], [6, 8, 5], [9, 4, 4]], 20, 20)

    def test_not_each_gets_what_is_worth_the_most_to_that_one(self):
        self.check([[10, 9, 0], [10, 0, 0], [9, 8, 7]], 1, 26)
        self.check([[3, 2], [3, 0]], 1, 5)

    def test_one_person(self):
        for said, rent in ((0, 0), (-6, 5), (BIG, -BIG)):
            self.check([[said]], rent, said)
            self.assertEqual(vars(settled([[said]], rent)), {"rooms": [0], "prices": [rent]})

    def test_up_to_four_people(self):
        for table, rent in reckoning.tables(31, 400):
            self.check(table, rent, reckoning.greatest_total(table))

    def test_prices_that_fit_one_best_giving_fit_all_of_them(self):
        for table, rent in reckoning.tables(32, 100, spans=(1, 2)):
            answer = settled(table, rent)
            greatest = most(table)
            for giving in reckoning.givings(len(table)):
                self.assertIs(fit(table, rent, giving, answer.prices), worth(table, giving) == greatest)

    def test_up_to_twelve_people(self):
        sizes = tuple(range(5, 13))
        for table, rent in reckoning.tables(33, 12, sizes=sizes) + reckoning.tables(34, 3, sizes=(12,)):
            self.check(table, rent, greatest_by_rooms_taken(table))

    def test_twelve_people_where_each_newcomer_moves_the_others(self):
        table = [[-(person * room) ** 2 for room in range(12)] for person in range(12)]
        self.check(table, 5, sum(-(person * (11 - person)) ** 2 for person in range(12)))
        table = [[BIG * (person - room) ** 2 for room in range(12)] for person in range(12)]
        self.check(table, 5, sum(BIG * (11 - 2 * person) ** 2 for person in range(12)))
        table = [[BIG * person * room for room in range(12)] for person in range(12)]
        self.check(table, 5, sum(BIG * person ** 2 for person in range(12)))

    def test_rows_alike_and_worths_all_alike(self):
        for count in (1, 2, 3, 12):
            row = list(range(count))
            self.check([row] * count, 7, sum(row))
            self.check([[-4] * count for _ in range(count)], 7, -4 * count)
            self.check([[0] * count for _ in range(count)], -7, 0)
            self.assertEqual(settled([[9] * count for _ in range(count)], 7).prices, [7] * count)

    def test_rents_of_any_sign_and_size(self):
        for rent in [*range(-5, 6), BIG, -BIG]:
            self.check([[7, 4, 3], [6, 8, 5], [9, 4, 4]], rent, 20)

    def test_twelve_people_promptly(self):
        chance = Random(35)
        for span in (0, 1, 100, 10 ** 20, 10 ** 700):
            table = [[chance.randint(-span, span) for _ in range(12)] for _ in range(12)]
            start = perf_counter()
            answer = settled(table, span)
            middle = perf_counter()
            greatest = most(table)
            self.assertLess(middle - start, 1)
            self.assertLess(perf_counter() - middle, 1)
            self.assertEqual(worth(table, answer.rooms), greatest)
            self.assertIs(answer.shows(table, span), True)

    def test_what_is_told_is_the_askers_own(self):
        answer = settled(TABLE, 3)
        answer.rooms.clear()
        answer.prices.clear()
        self.check(TABLE, 3, 8)

    def test_nothing_handed_in_is_kept_or_changed(self):
        table = copy.deepcopy(TABLE)
        answer = settled(table, 3)
        most(table)
        self.assertEqual(table, TABLE)
        before = copy.deepcopy(vars(answer))
        table[0].clear()
        self.assertEqual(vars(answer), before)


class Refused(unittest.TestCase):
    def test_no_table(self):
        for table in reckoning.BAD_TABLES:
            self.assertRaises(BadTable, settled, table, 3)
            self.assertRaises(BadTable, most, table)

    def test_no_rent(self):
        for rent in reckoning.BAD_RENTS:
            self.assertRaises(BadRent, settled, TABLE, rent)

    def test_the_table_goes_first(self):
        for table in reckoning.BAD_TABLES:
            self.assertRaises(BadTable, settled, table, None)


if __name__ == "__main__":
    unittest.main()
