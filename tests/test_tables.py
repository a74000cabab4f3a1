"""tables.py: points 1 and 2: what prices fit, what a giving is worth, and what is refused."""

import copy
import unittest
from itertools import product

from roomprices.errors import BadGiving, BadPrices, BadRent, BadTable, RoomError
from roomprices.tables import fit, worth

import reckoning

TABLE = [[5, 1], [2, 3]]


class Fit(unittest.TestCase):
    def test_prices_are_parts_of_the_unit_as_many_as_people(self):
        # The rent is 3, so 6 halves; one person says 4 units, 8 halves, more of room 0, the other 1 unit, 2 halves, less.
        self.assertIs(fit(TABLE, 3, [0, 1], [3, 3]), True)
        self.assertIs(fit(TABLE, 3, [0, 1], [7, -1]), True)
        self.assertIs(fit(TABLE, 3, [0, 1], [2, 4]), True)

    def test_prices_that_someone_envies_do_not_fit(self):
        self.assertIs(fit(TABLE, 3, [0, 1], [8, -2]), False)
        self.assertIs(fit(TABLE, 3, [0, 1], [1, 5]), False)
        self.assertIs(fit(TABLE, 3, [1, 0], [3, 3]), False)

    def test_prices_that_are_not_the_rent_together_do_not_fit(self):
        self.assertIs(fit(TABLE, 3, [0, 1], [3, 4]), False)
        self.assertIs(fit(TABLE, 3, [0, 1], [3, 2]), False)
        self.assertIs(fit(TABLE, 6, [0, 1], [3, 3]), False)
        self.assertIs(fit(TABLE, -3, [0, 1], [3, 3]), False)

    def test_no_worse_is_enough(self):
        self.assertIs(fit([[1, 0], [0, 0]], 0, [0, 1], [1, -1]), True)
        self.assertIs(fit([[1, 0], [0, 0]], 0, [0, 1], [2, -2]), False)
        self.assertIs(fit([[1, 0], [0, 0]], 0, [0, 1], [0, 0]), True)
        self.assertIs(fit([[1, 0], [0, 0]], 0, [0, 1], [-1, 1]), False)

    def test_one_person_pays_the_rent(self):
        self.assertIs(fit([[9]], -4, [0], [-4]), True)
        self.assertIs(fit([[9]], -4, [0], [4]), False)
        self.assertIs(fit([[9]], -4, [0], [-5]), False)

    def test_long_numbers_are_exact(self):
        big = 10 ** 400
        table = [[big, 0], [0, 1]]
        self.assertIs(fit(table, 1, [0, 1], [2 * big + 1, 1 - 2 * big]), False)
        self.assertIs(fit(table, 1, [0, 1], [big + 1, 1 - big]), True)
        self.assertIs(fit(table, big, [0, 1], [big, big]), True)
        self.assertIs(fit(table, big, [0, 1], [big, big + 1]), False)
        self.assertIs(fit(table, big, [0, 1], [big - 1, big + 1]), True)
        self.assertIs(fit(table, big, [0, 1], [big - 2, big + 2]), False)

    def test_twelve_people(self):
        table = [[12 * (person == room) for room in range(12)] for person in range(12)]
        same = list(range(12))
        self.assertIs(fit(table, 7, same, [7] * 12), True)
        self.assertIs(fit(table, 7, same, [7 + 144] + [7] * 10 + [7 - 144]), False)
        self.assertIs(fit(table, 7, same[::-1], [7] * 12), False)

    def test_against_an_own_reckoning(self):
        for table, rent in reckoning.tables(1, 60, sizes=(1, 2, 3), spans=(1, 2)):
            count = len(table)
            for giving in reckoning.givings(count):
                for first in product(range(rent - 4, rent + 5), repeat=count - 1):
                    prices = [*first, count * rent - sum(first)]
                    self.assertIs(fit(table, rent, giving, prices), reckoning.fits(table, rent, giving, prices))

    def test_nothing_handed_in_is_changed(self):
        asked = [copy.deepcopy(TABLE), 3, [0, 1], [3, 3]]
        fit(*asked)
        self.assertEqual(asked, [TABLE, 3, [0, 1], [3, 3]])


class Worth(unittest.TestCase):
    def test_each_by_the_own_word(self):
        self.assertEqual(worth(TABLE, [0, 1]), 8)
        self.assertEqual(worth(TABLE, [1, 0]), 3)
        self.assertEqual(worth([[1, 2, 4], [8, 16, 32], [64, 128, 256]], [1, 2, 0]), 2 + 32 + 64)

    def test_of_any_sign_and_size(self):
        self.assertEqual(worth([[-7]], [0]), -7)
        self.assertEqual(worth([[0]], [0]), 0)
        self.assertEqual(worth([[-10 ** 400, 1], [1, 3]], [0, 1]), 3 - 10 ** 400)
        self.assertEqual(worth([[1] * 12 for _ in range(12)], list(range(12))), 12)

    def test_a_whole_number(self):
        self.assertTrue(reckoning.is_whole(worth([[1]], [0])))
        self.assertTrue(reckoning.is_whole(worth(TABLE, [0, 1])))

    def test_nothing_handed_in_is_changed(self):
        table, giving = copy.deepcopy(TABLE), [1, 0]
        worth(table, giving)
        self.assertEqual((table, giving), (TABLE, [1, 0]))


class Refused(unittest.TestCase):
    def test_no_table(self):
        for table in reckoning.BAD_TABLES:
            with self.assertRaises(BadTable):
                fit(table, 3, [0, 1], [3, 3])
            with self.assertRaises(BadTable):
                worth(table, [0, 1])

    def test_no_rent(self):
        for rent in reckoning.BAD_RENTS:
            with self.assertRaises(BadRent):
                fit(TABLE, rent, [0, 1], [3, 3])

    def test_no_giving(self):
        for giving in reckoning.BAD_GIVINGS:
            with self.assertRaises(BadGiving):
                fit(TABLE, 3, giving, [3, 3])
            with self.assertRaises(BadGiving):
                worth(TABLE, giving)

    def test_no_prices(self):
        for prices in reckoning.BAD_PRICES:
            with self.assertRaises(BadPrices):
                fit(TABLE, 3, [0, 1], prices)

    def test_prices_are_refused_also_where_they_could_not_fit(self):
        with self.assertRaises(BadPrices):
            fit(TABLE, 3, [1, 0], [3, True])

    def test_which_refusal_goes_first(self):
        wrong = [None, "3", [0, 0], [6]]
        right = [TABLE, 3, [0, 1], [3, 3]]
        kinds = [BadTable, BadRent, BadGiving, BadPrices]
        for chosen in product([False, True], repeat=4):
            if any(chosen):
                asked = [bad if is_bad else good for is_bad, bad, good in zip(chosen, wrong, right)]
                with self.assertRaises(RoomError) as caught:
                    fit(*asked)
                self.assertIs(type(caught.exception), kinds[chosen.index(True)])
        with self.assertRaises(BadTable):
            worth([[1, 2], [3]], [0, 0])

    def test_numbers_too_long_to_be_written_out(self):
        long = 10 ** 6000
        with self.assertRaises(BadGiving):
            worth([[long]], [long])
        with self.assertRaises(BadTable):
            fit([[long, long]], long, [long], [long])
        with self.assertRaises(BadPrices):
            fit([[long]], long, [0], [long, long])


if __name__ == "__main__":
    unittest.main()
