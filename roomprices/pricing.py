"""Prices for a giving, or the ring that bars them; the least and the greatest price of a room."""

from roomprices.answers import Priced, Ring
from roomprices.errors import NoPrices
from roomprices.rings import best_chains, chains_between, room_gains
from roomprices.tables import check_giving, check_rent, check_room, check_table


def prices_from(best, rent, giving):
    """Prices that fit, from each one's best gain of a chain.

    Nobody envies where each room is as much cheaper as its owner's best chain gains. Then all rooms together are off
    the rent by some whole number; each room takes one part of each unit of it, so that it is spread evenly.
    """
    count = len(giving)
    spread = rent + sum(best)
    prices = [0] * count
    for room, gain in zip(giving, best):
        prices[room] = spread - gain * count
    return prices


def told(table, rent, giving):
    """Prices that fit the giving and the rent, or a ring of people that bars them."""
    check_table(table)
    check_rent(rent)
    check_giving(giving, len(table))
    best, ring = best_chains(room_gains(table, giving))
    if ring:
        return Ring(ring)
    return Priced(prices_from(best, rent, giving))


def between(table, rent, giving, room):
    """The least and the greatest price of the room among all prices that fit the giving and the rent.

    Another's room costs more than one's own by no less than the best chain from the one to the other gains. So a room
    costs least where all others are as dear as the chains from their owners to its own let them be, and most where
    all others are as cheap as the chains from its owner to theirs let them be.
    """
    check_table(table)
    check_rent(rent)
    check_giving(giving, len(table))
    check_room(room, len(table))
    gains = room_gains(table, giving)
    _, ring = best_chains(gains)
    if ring:
        raise NoPrices("a ring of people bars prices for this giving")
    chains = chains_between(gains)
    owner = giving.index(room)
    return rent + sum([row[owner] for row in chains]), rent - sum(chains[owner])
