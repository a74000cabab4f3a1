"""Gains, chains and rings of people who take each other's rooms.

gains[one][other] is how much more the one says of the other's room than of the own one. In a chain each of the people
takes the room of the next one; the last one takes none, and the chain's gain is the sum of theirs. A ring is a chain
that closes: the last one takes the first one's room.
"""


def room_gains(table, giving):
    """The gains among the people that the giving has a room for."""
    return [[row[room] - row[own] for room in giving] for row, own in zip(table, giving)]


def is_ring(gains, people):
    """Whether these people, none twice, gain all together if each takes the next one's room."""
    count = len(gains)
    if not all([0 <= one < count for one in people]) or len(set(people)) != len(people):
        return False
    return sum([gains[one][other] for one, other in zip(people, people[1:] + people[:1])]) > 0


def climb(gains, best, following):
    """Better each one's best chain by one step where that gains; tell whose was bettered last, or None.

    best holds the gain of each one's best chain so far, and following who comes next in it.
    """
    bettered = None
    for one, row in enumerate(gains):
        for other, gain in enumerate(row):
            if gain + best[other] > best[one]:
                best[one] = gain + best[other]
                following[one] = other
                bettered = one
    return bettered


def ring_behind(following, start):
    """The ring that one comes into who starts there and goes on and on to the one who follows."""
    first = start
    for _ in following:
        first = following[first]
    people = [first]
    while following[people[-1]] != first:
        people.append(following[people[-1]])
    return people


def best_chains(gains):
    """Each one's best gain of a chain, to whomever, and a ring: the people in it, or nobody if there is none.

    Where there is a ring, the gains of chains are of no use: they could go round it for ever.
    """
    best = [0] * len(gains)
    following = list(range(len(gains)))
    bettered = 0
    for _ in range(len(gains)):
        bettered = climb(gains, best, following)
        if bettered is None:
            return best, []
    # A chain with no ring in it has fewer steps than there are people: what the last round still bettered has one.
    return best, ring_behind(following, bettered)


def chains_between(gains):
    """The best gain of a chain from each one to each other, where there is no ring."""
    chains = [list(row) for row in gains]
    count = len(gains)
    for middle in range(count):
        for one in range(count):
            for other in range(count):
                through = chains[one][middle] + chains[middle][other]
                chains[one][other] = max(chains[one][other], through)
    return chains
