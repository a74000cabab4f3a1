"""pricing.py: points 3 and 4: told and between."""

import copy
import unittest
from itertools import product
from random import Random
from time import perf_counter

from roomprices.answers import Priced, Ring
from roomprices.errors import BadGiving, BadRent, BadRoom, BadTable, NoPrices, RoomError
from roomprices.pricing import between, told
from roomprices.tables import fit

import reckoning

TABLE = [[5, 1], [2, 3]]
ROUND = [[0, 4, 0], [0, 0, 4], [4, 0, 0]]
BIG = 10 ** 400


class Told(unittest.TestCase):
    def check(self, table, rent, giving):
        """Check what is told by the own reckoning, and tell whether it is Priced."""
        answer = told(table, rent, giving)
        self.assertIs(answer.shows(table, rent, giving), True)
        if type(answer) is Priced:
            self.assertTrue(all(reckoning.is_whole(price) for price in answer.prices))
            self.assertTrue(reckoning.fits(table, rent, giving, answer.prices))
            self.assertIs(fit(table, rent, giving, answer.prices), True)
            self.assertFalse(hasattr(answer, "people"))
        else:
            self.assertIs(type(answer), Ring)
            self.assertTrue(all(reckoning.is_whole(one) for one in answer.people))
            self.assertTrue(reckoning.bars(table, giving, answer.people))
            self.assertFalse(hasattr(answer, "prices"))
        return type(answer) is Priced

    def test_ordinary(self):
        self.assertTrue(self.check(TABLE, 3, [0, 1]))
        self.assertFalse(self.check(TABLE, 3, [1, 0]))
        self.assertFalse(self.check(ROUND, 10, [0, 1, 2]))
        self.assertTrue(self.check(ROUND, 10, [1, 2, 0]))
        self.assertFalse(self.check(ROUND, 10, [2, 0, 1]))

    def test_one_person(self):
        self.assertEqual(told([[7]], -5, [0]).prices, [-5])
        self.assertEqual(told([[-BIG]], BIG, [0]).prices, [BIG])
        self.assertEqual(told([[0]], 0, [0]).prices, [0])

    def test_rents_that_the_count_does_not_divide(self):
        for rent in range(-7, 8):
            self.assertTrue(self.check(ROUND, rent, [1, 2, 0]))
            self.assertTrue(self.check([[1] * 5 for _ in range(5)], rent, [4, 2, 0, 1, 3]))

    def test_all_givings_of_up_to_four_people(self):
        for table, rent in reckoning.tables(11, 120):
            greatest = reckoning.greatest_total(table)
            for giving in reckoning.givings(len(table)):
                can_be_priced = self.check(table, rent, giving)
                self.assertIs(can_be_priced, reckoning.total(table, giving) == greatest)
                self.assertIs(can_be_priced, not reckoning.all_rings(table, giving))

    def test_only_long_rings(self):
        for count in range(2, 13):
            table = [[-BIG] * count for _ in range(count)]
            for person in range(count):
                table[person][person] = 0
                table[person][(person + 1) % count] = -1
            table[count - 1][0] = count
            same = list(range(count))
            self.assertFalse(self.check(table, 9, same))
            self.assertEqual(sorted(told(table, 9, same).people), same)
            table[count - 1][0] = count - 1
            self.assertTrue(self.check(table, 9, same))

    def test_rows_alike_and_worths_all_alike(self):
        chance = Random(12)
        for count in (1, 2, 5, 12):
            row = [chance.randint(-50, 50) for _ in range(count)]
            giving = chance.sample(range(count), count)
            self.assertTrue(self.check([list(row) for _ in range(count)], 17, giving))
            self.assertTrue(self.check([row] * count, 17, giving))
            self.assertTrue(self.check([[-BIG] * count for _ in range(count)], 17, giving))

    def test_twelve_people_promptly(self):
        chance = Random(13)
        for span in (1, 100, 10 ** 20, 10 ** 700):
            for _ in range(5):
                table = [[chance.randint(-span, span) for _ in range(12)] for _ in range(12)]
                giving = chance.sample(range(12), 12)
                rent = chance.randint(-span, span)
                start = perf_counter()
                answer = told(table, rent, giving)
                self.assertLess(perf_counter() - start, 1)
                self.assertIs(answer.shows(table, rent, giving), True)

    def test_what_is_told_is_the_askers_own(self):
        first = told(TABLE, 3, [0, 1])
        first.prices.clear()
        self.assertTrue(self.check(TABLE, 3, [0, 1]))
        first = told(ROUND, 3, [0, 1, 2])
        first.people.clear()
        self.assertFalse(self.check(ROUND, 3, [0, 1, 2]))

    def test_nothing_handed_in_is_kept_or_changed(self):
        for table, giving in ((TABLE, [0, 1]), (ROUND, [0, 1, 2])):
            handed, given = copy.deepcopy(table), list(giving)
            answer = told(handed, 3, given)
            self.assertEqual((handed, given), (table, giving))
            before = copy.deepcopy(vars(answer))
            handed[0][0] = 99
            given.clear()
            self.assertEqual(vars(answer), before)


class Between(unittest.TestCase):
    def test_ordinary(self):
        self.assertEqual(between(TABLE, 3, [0, 1], 0), (2, 7))
        self.assertEqual(between(TABLE, 3, [0, 1], 1), (-1, 4))

    def test_by_people_and_rooms_apart(self):
        # The same as above, with the rooms told the other way round.
        self.assertEqual(between([[1, 5], [3, 2]], 3, [1, 0], 1), (2, 7))
        self.assertEqual(between([[1, 5], [3, 2]], 3, [1, 0], 0), (-1, 4))

    def test_one_person(self):
        self.assertEqual(between([[9]], -4, [0], 0), (-4, -4))
        self.assertEqual(between([[9]], BIG, [0], 0), (BIG, BIG))

    def test_a_pair_of_whole_numbers(self):
        for asked in (([[9]], 1, [0], 0), (TABLE, 3, [0, 1], 0)):
            pair = between(*asked)
            self.assertIs(type(pair), tuple)
            self.assertEqual(len(pair), 2)
            self.assertTrue(all(reckoning.is_whole(number) for number in pair))

    def test_worths_all_alike_leave_one_price(self):
        for count in (2, 3, 12):
            table = [[-8] * count for _ in range(count)]
            for room in range(count):
                self.assertEqual(between(table, 5, list(range(count))[::-1], room), (5, 5))

    def test_rows_alike_leave_one_price(self):
        self.assertEqual([between([[0, 3, 7]] * 3, 1, [2, 0, 1], room) for room in range(3)], [(-9, -9), (0, 0), (12, 12)])

    def test_against_all_prices_that_fit(self):
        for table, rent in reckoning.tables(21, 30, sizes=(1, 2, 3), spans=(1, 2)):
            for giving in reckoning.givings(len(table)):
                found = reckoning.all_prices(table, rent, giving, 16)
                for room in range(len(table)):
                    if found:
                        prices = [each[room] for each in found]
                        self.assertEqual(between(table, rent, giving, room), (min(prices), max(prices)))
                    else:
                        self.assertRaises(NoPrices, between, table, rent, giving, room)

    def test_against_all_ways_of_up_to_four_people(self):
        for table, rent in reckoning.tables(22, 100):
            greatest = reckoning.greatest_total(table)
            for giving in reckoning.givings(len(table)):
                for room in range(len(table)):
                    if reckoning.total(table, giving) == greatest:
                        self.assertEqual(between(table, rent, giving, room), reckoning.extremes(table, rent, giving, room))
                    else:
                        self.assertRaises(NoPrices, between, table, rent, giving, room)

    def test_what_is_told_lies_between(self):
        for table, rent in reckoning.tables(23, 60, sizes=(3, 4, 5)):
            for giving in reckoning.givings(len(table)):
                answer = told(table, rent, giving)
                if type(answer) is Priced:
                    for room, price in enumerate(answer.prices):
                        least, greatest = between(table, rent, giving, room)
                        self.assertTrue(least <= price <= greatest)

    def test_twelve_people_promptly(self):
        chance = Random(24)
        for span in (1, 10 ** 700):
            row = [chance.randint(-span, span) for _ in range(12)]
            table = [list(row) for _ in range(12)]
            giving = chance.sample(range(12), 12)
            for person in range(12):
                table[person][giving[person]] += span
            for room in range(12):
                start = perf_counter()
                pair = between(table, 100, giving, room)
                self.assertLess(perf_counter() - start, 1)
                # Each could pay up to a span more than the others, so 12 rooms leave 11 spans to either side.
                middle = 100 + 12 * row[room] - sum(row)
                self.assertEqual(pair, (middle - 11 * span, middle + 11 * span))

    def test_nothing_handed_in_is_changed(self):
        table, giving = copy.deepcopy(TABLE), [0, 1]
        between(table, 3, giving, 1)
        self.assertEqual((table, giving), (TABLE, [0, 1]))


class Refused(unittest.TestCase):
    def test_no_table(self):
        for table in reckoning.BAD_TABLES:
            self.assertRaises(BadTable, told, table, 3, [0, 1])
            self.assertRaises(BadTable, between, table, 3, [0, 1], 0)

    def test_no_rent(self):
        for rent in reckoning.BAD_RENTS:
            self.assertRaises(BadRent, told, TABLE, rent, [0, 1])
            self.assertRaises(BadRent, told, TABLE, rent, [1, 0])
            self.assertRaises(BadRent, between, TABLE, rent, [0, 1], 0)

    def test_no_giving(self):
        for giving in reckoning.BAD_GIVINGS:
            self.assertRaises(BadGiving, told, TABLE, 3, giving)
            self.assertRaises(BadGiving, between, TABLE, 3, giving, 0)

    def test_no_room(self):
        for room in reckoning.BAD_ROOMS:
            self.assertRaises(BadRoom, between, TABLE, 3, [0, 1], room)
            self.assertRaises(BadRoom, between, TABLE, 3, [1, 0], room)
        self.assertRaises(BadRoom, between, [[1]], 3, [0], 1)
        self.assertRaises(BadRoom, between, [[1]], 3, [0], False)

    def test_a_giving_that_can_not_be_priced(self):
        self.assertRaises(NoPrices, between, TABLE, 3, [1, 0], 0)
        self.assertRaises(NoPrices, between, ROUND, 3, [0, 1, 2], 2)
        self.assertRaises(NoPrices, between, [[0, BIG], [1 - BIG, 0]], 3, [0, 1], 1)
        self.assertEqual(between([[0, BIG], [-BIG, 0]], 3, [0, 1], 1), (3 + BIG, 3 + BIG))

    def test_which_refusal_goes_first(self):
        wrong = [[[1, 2]], True, [0, 0], 2]
        right = [TABLE, 3, [1, 0], 1]
        kinds = [BadTable, BadRent, BadGiving, BadRoom, NoPrices]
        for chosen in product([False, True], repeat=4):
            asked = [bad if is_bad else good for is_bad, bad, good in zip(chosen, wrong, right)]
            with self.assertRaises(RoomError) as caught:
                between(*asked)
            self.assertIs(type(caught.exception), kinds[[*chosen, True].index(True)])
            if any(chosen[:3]):
                with self.assertRaises(RoomError) as caught:
                    told(*asked[:3])
                self.assertIs(type(caught.exception), kinds[chosen.index(True)])


if __name__ == "__main__":
    unittest.main()
