"""answers.py: answers made by hand show what the document tells, by their fields as they stand then."""

import copy
import unittest
from itertools import product

from roomprices.answers import Answer, Priced, Ring, Settled

import reckoning

TABLE = [[5, 1], [2, 3]]
# All three want the next one's room: 0 wants 1's, 1 wants 2's, 2 wants 0's.
ROUND = [[0, 4, 0], [0, 0, 4], [4, 0, 0]]
BIG = 10 ** 400


class Classes(unittest.TestCase):
    def test_each_is_straight_under_answer(self):
        for kind in (Priced, Ring, Settled):
            self.assertEqual(kind.__bases__, (Answer,))

    def test_fields_are_copies(self):
        handed = [3, 3]
        rooms = [0, 1]
        priced, ring, settled = Priced(handed), Ring(handed), Settled(rooms, handed)
        handed.append(9)
        rooms.pop()
        self.assertEqual((priced.prices, ring.people, settled.rooms, settled.prices), ([3, 3], [3, 3], [0, 1], [3, 3]))
        for field in (priced.prices, ring.people, settled.rooms, settled.prices):
            self.assertIs(type(field), list)
        priced.prices.append(1)
        self.assertEqual((handed, ring.people, settled.prices), ([3, 3, 9], [3, 3], [3, 3]))

    def test_both_fields_of_settled_are_copies_of_one_list(self):
        handed = [0, 1]
        settled = Settled(handed, handed)
        settled.rooms.append(5)
        self.assertEqual((settled.prices, handed), ([0, 1], [0, 1]))

    def test_fields_by_name(self):
        self.assertEqual(Priced(prices=[1]).prices, [1])
        self.assertEqual(Ring(people=[1, 0]).people, [1, 0])
        settled = Settled(prices=[1], rooms=[0])
        self.assertEqual((settled.rooms, settled.prices), ([0], [1]))


class PricedShows(unittest.TestCase):
    def test_prices_that_fit(self):
        for prices in ([3, 3], [7, -1], [2, 4]):
            self.assertIs(Priced(prices).shows(TABLE, 3, [0, 1]), True)

    def test_prices_that_do_not_fit(self):
        for prices in ([8, -2], [1, 5], [3, 4], [3, 2], [-3, -3], [0, 0]):
            self.assertIs(Priced(prices).shows(TABLE, 3, [0, 1]), False)

    def test_lists_of_another_length(self):
        for prices in ([], [6], [3], [3, 3, 0], [0, 3, 3], [3, 3, 3, 3], [3] * 12):
            self.assertIs(Priced(prices).shows(TABLE, 3, [0, 1]), False)
        self.assertIs(Priced([]).shows([[1]], 0, [0]), False)
        self.assertIs(Priced([0, 0]).shows([[1]], 0, [0]), False)

    def test_other_rents_and_givings(self):
        priced = Priced([3, 3])
        for rent in (-3, 0, 2, 4, 6, BIG):
            self.assertIs(priced.shows(TABLE, rent, [0, 1]), False)
        self.assertIs(priced.shows(TABLE, 3, [1, 0]), False)
        self.assertIs(Priced([3, 3]).shows([[1, 1], [1, 1]], 3, [1, 0]), True)

    def test_fields_as_they_stand_then(self):
        priced = Priced([3, 3])
        priced.prices[0] = 4
        self.assertIs(priced.shows(TABLE, 3, [0, 1]), False)
        priced.prices[1] = 2
        self.assertIs(priced.shows(TABLE, 3, [0, 1]), True)
        priced.prices.append(0)
        self.assertIs(priced.shows(TABLE, 3, [0, 1]), False)
        priced.prices = [2, 4]
        self.assertIs(priced.shows(TABLE, 3, [0, 1]), True)

    def test_against_an_own_reckoning(self):
        for table, rent in reckoning.tables(2, 40, sizes=(1, 2, 3), spans=(1, 2)):
            for giving in reckoning.givings(len(table)):
                for prices in product(range(rent - 3, rent + 4), repeat=len(table)):
                    due = reckoning.fits(table, rent, giving, prices)
                    self.assertIs(Priced(list(prices)).shows(table, rent, giving), due)


class RingShows(unittest.TestCase):
    def test_the_one_ahead_takes_the_room_of_the_next_one(self):
        for people in ([0, 1, 2], [1, 2, 0], [2, 0, 1]):
            self.assertIs(Ring(people).shows(ROUND, 5, [0, 1, 2]), True)
        for people in ([2, 1, 0], [1, 0, 2], [0, 2, 1]):
            self.assertIs(Ring(people).shows(ROUND, 5, [0, 1, 2]), False)

    def test_people_not_rooms(self):
        # Person 0 has room 1, person 1 room 2, person 2 room 0: so each has the best already.
        self.assertIs(Ring([0, 1, 2]).shows(ROUND, 5, [1, 2, 0]), False)
        table = [[0, 4, 0], [4, 0, 0], [0, 0, 0]]
        # Person 0 has room 0, person 2 has room 1, person 1 has room 2.
        self.assertIs(Ring([0, 2]).shows(table, 5, [0, 2, 1]), True)
        self.assertIs(Ring([0, 1]).shows(table, 5, [0, 2, 1]), True)
        self.assertIs(Ring([1, 2]).shows(table, 5, [0, 2, 1]), False)
        self.assertIs(Ring([1, 0]).shows(table, 5, [0, 1, 2]), True)
        self.assertIs(Ring([0, 2]).shows(table, 5, [0, 1, 2]), False)

    def test_more_all_together_and_not_as_much(self):
        table = [[0, 5], [-4, 0]]
        self.assertIs(Ring([0, 1]).shows(table, 0, [0, 1]), True)
        table = [[0, 5], [-5, 0]]
        self.assertIs(Ring([0, 1]).shows(table, 0, [0, 1]), False)
        table = [[0, 5], [-6, 0]]
        self.assertIs(Ring([0, 1]).shows(table, 0, [0, 1]), False)
        self.assertIs(Ring([0, 1]).shows([[0, BIG + 1], [-BIG, 0]], 0, [0, 1]), True)
        self.assertIs(Ring([0, 1]).shows([[0, BIG], [-BIG, 0]], 0, [0, 1]), False)

    def test_nobody_and_one_alone(self):
        self.assertIs(Ring([]).shows(ROUND, 5, [0, 1, 2]), False)
        for one in range(3):
            self.assertIs(Ring([one]).shows(ROUND, 5, [0, 1, 2]), False)
        self.assertIs(Ring([0]).shows([[-5]], 5, [0]), False)

    def test_someone_twice(self):
        for people in ([0, 0], [0, 1, 2, 0], [0, 1, 2, 0, 1, 2], [0, 1, 1, 2], [0, 1, 0, 1]):
            self.assertIs(Ring(people).shows(ROUND, 5, [0, 1, 2]), False)

    def test_people_that_no_row_stands_for(self):
        for people in ([0, 1, -1], [-3, -2, -1], [0, 1, 3], [0, 1, 2, 3], [3], [-1], [BIG], [-BIG, 0], [0, BIG], [0, 1, 2, -1]):
            self.assertIs(Ring(people).shows(ROUND, 5, [0, 1, 2]), False)

    def test_the_rent_has_no_part_in_it(self):
        for rent in (-BIG, -1, 0, 1, BIG):
            self.assertIs(Ring([0, 1, 2]).shows(ROUND, rent, [0, 1, 2]), True)
            self.assertIs(Ring([2, 1, 0]).shows(ROUND, rent, [0, 1, 2]), False)

    def test_fields_as_they_stand_then(self):
        ring = Ring([0, 1, 2])
        ring.people.reverse()
        self.assertIs(ring.shows(ROUND, 5, [0, 1, 2]), False)
        ring.people = [1, 2, 0]
        self.assertIs(ring.shows(ROUND, 5, [0, 1, 2]), True)
        ring.people.pop()
        self.assertIs(ring.shows(ROUND, 5, [0, 1, 2]), True)
        ring.people.clear()
        self.assertIs(ring.shows(ROUND, 5, [0, 1, 2]), False)

    def test_against_an_own_reckoning(self):
        for table, rent in reckoning.tables(3, 30, sizes=(1, 2, 3), spans=(1, 3)):
            for giving in reckoning.givings(len(table)):
                for size in range(5):
                    for people in product(range(-1, 4), repeat=size):
                        due = reckoning.bars(table, giving, list(people))
                        self.assertIs(Ring(list(people)).shows(table, rent, giving), due)


class SettledShows(unittest.TestCase):
    def test_a_giving_and_prices_that_fit(self):
        for prices in ([3, 3], [7, -1], [2, 4]):
            self.assertIs(Settled([0, 1], prices).shows(TABLE, 3), True)

    def test_prices_that_do_not_fit(self):
        for prices in ([8, -2], [1, 5], [3, 4], [], [6], [3, 3, 0]):
            self.assertIs(Settled([0, 1], prices).shows(TABLE, 3), False)

    def test_rooms_that_are_no_giving(self):
        for rooms in ([], [0], [0, 0], [1, 1], [0, 1, 2], [0, 1, 1], [-2, -1], [0, -1], [0, 2], [1, 2], [0, BIG], [1, 0]):
            self.assertIs(Settled(rooms, [3, 3]).shows(TABLE, 3), False)
        same = [[1, 1], [1, 1]]
        for rooms in ([0, 0], [1, 1], [-1, 0], [-2, -1], [0, 2], [1], [0, 1, 0]):
            self.assertIs(Settled(rooms, [3, 3]).shows(same, 3), False)
        for rooms in ([0, 1], [1, 0]):
            self.assertIs(Settled(rooms, [3, 3]).shows(same, 3), True)

    def test_other_rents_and_tables(self):
        for rent in (-3, 0, 2, 4, 6, BIG):
            self.assertIs(Settled([0, 1], [3, 3]).shows(TABLE, rent), False)
        self.assertIs(Settled([0, 1], [3, 3]).shows([[1, 5], [3, 2]], 3), False)
        self.assertIs(Settled([0, 1], [3, 3]).shows([[1]], 3), False)
        self.assertIs(Settled([0, 1], [3, 3]).shows(ROUND, 2), False)

    def test_one_person_and_twelve(self):
        self.assertIs(Settled([0], [4]).shows([[-9]], 4), True)
        self.assertIs(Settled([0], [5]).shows([[-9]], 4), False)
        same = [[3] * 12 for _ in range(12)]
        self.assertIs(Settled(list(range(12)), [5] * 12).shows(same, 5), True)
        self.assertIs(Settled(list(range(12)), [6] + [5] * 10 + [4]).shows(same, 5), False)

    def test_fields_as_they_stand_then(self):
        settled = Settled([0, 1], [3, 3])
        settled.rooms.reverse()
        self.assertIs(settled.shows(TABLE, 3), False)
        settled.rooms = [0, 1]
        settled.prices = [7, -1]
        self.assertIs(settled.shows(TABLE, 3), True)
        settled.prices[0] = 8
        self.assertIs(settled.shows(TABLE, 3), False)

    def test_against_an_own_reckoning(self):
        for table, rent in reckoning.tables(4, 20, sizes=(1, 2), spans=(1, 2)):
            count = len(table)
            for rooms in product(range(-1, 3), repeat=count):
                for prices in product(range(rent - 3, rent + 4), repeat=count):
                    due = sorted(rooms) == list(range(count)) and reckoning.fits(table, rent, rooms, prices)
                    self.assertIs(Settled(list(rooms), list(prices)).shows(table, rent), due)


class Asked(unittest.TestCase):
    def test_nothing_handed_in_or_held_is_changed(self):
        table, giving = copy.deepcopy(ROUND), [0, 1, 2]
        ring, priced, settled = Ring([0, 1, 2]), Priced([5, 5, 5]), Settled([1, 2, 0], [5, 5, 5])
        ring.shows(table, 5, giving)
        priced.shows(table, 5, giving)
        settled.shows(table, 5)
        self.assertEqual((table, giving), (ROUND, [0, 1, 2]))
        self.assertEqual((ring.people, priced.prices), ([0, 1, 2], [5, 5, 5]))
        self.assertEqual((settled.rooms, settled.prices), ([1, 2, 0], [5, 5, 5]))

    def test_a_giving_for_another_count_of_people(self):
        for giving in ([0], [0, 1], [0, 1, 2, 3]):
            self.assertIs(Ring([0, 1, 2]).shows(ROUND, 5, giving), False)
            self.assertIs(Priced([5, 5, 5]).shows(ROUND, 5, giving), False)

    def test_true_and_false_are_no_numbers_in_a_field(self):
        self.assertIs(Priced([True]).shows([[4]], 1, [0]), False)
        self.assertIs(Settled([False], [1]).shows([[4]], 1), False)
        self.assertIs(Ring([False, True]).shows([[0, 1], [1, 0]], 1, [0, 1]), False)


if __name__ == "__main__":
    unittest.main()
