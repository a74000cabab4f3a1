"""Rooms given so that they are worth the most, together, and prices that fit."""

from roomprices.answers import Settled
from roomprices.pricing import told
from roomprices.rings import climb, room_gains
from roomprices.tables import check_rent, check_table, total_worth


def newcomer_ring(gains):
    """The ring through the last one that gains most, where there is none among the others; nobody if none gains."""
    last = len(gains) - 1
    others = [row[:last] for row in gains[:last]]
    best = [row[last] for row in gains[:last]]
    following = [last] * last
    while climb(others, best, following) is not None:
        pass
    whole = [gains[last][one] + best[one] for one in range(last)]
    most_gain = max(whole, default=0)
    if most_gain <= 0:
        return []
    ring = [last, whole.index(most_gain)]
    while following[ring[-1]] != last:
        ring.append(following[ring[-1]])
    return ring


def best_giving(table):
    """A giving that is worth the most.

    The people come one by one, each with one more room, the one of the same number. Those who were there before have
    their rooms such that they are worth the most: so only a ring through the newcomer can gain, and the one that gains
    most makes it the most again.
    """
    giving = []
    for newcomer in range(len(table)):
        giving.append(newcomer)
        ring = newcomer_ring(room_gains(table, giving))
        taken = [giving[other] for other in ring[1:] + ring[:1]]
        for one, room in zip(ring, taken):
            giving[one] = room
    return giving


def settled(table, rent):
    """A giving and prices that fit it and the rent."""
    check_table(table)
    check_rent(rent)
    rooms = best_giving(table)
    return Settled(rooms, told(table, rent, rooms).prices)


def most(table):
    """The most that all rooms given can be worth, together."""
    check_table(table)
    return total_worth(table, best_giving(table))
