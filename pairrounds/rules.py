"""The rules by which whole movements are made: Mitchell, cycles and the circle.

As in the document, i is the round less 1 and j the table less 1.
"""

from pairrounds.seating import Seating

SKIP = 1
RELAY = 2


def steps(rounds, tables):
    """Every (i, j) of a movement with so many rounds and tables."""
    found = []
    for i in range(rounds):
        for j in range(tables):
            found.append((i, j))
    return found


def mitchell_seating(n, kind, i, j):
    half = n // 2
    moved = i + 1 if kind == SKIP and i >= half else i
    boards = j + 1 if kind == RELAY and j >= half else j
    east_west = n + 1 + (j + 2 * n - moved) % n
    return Seating(i + 1, j + 1, j + 1, east_west, 1 + (boards + i) % n)


def mitchell_seatings(n, kind):
    rounds = n - 1 if kind == SKIP else n
    return [mitchell_seating(n, kind, i, j) for i, j in steps(rounds, n)]


def cycle_pair(m, number, i):
    # The number m stands for the one pair that doesn't go on with the rounds.
    if number == m:
        return m + 1
    return 1 + (number + i) % m


def cycle_seating(m, triple, i, j):
    north_south = cycle_pair(m, triple[0], i)
    east_west = cycle_pair(m, triple[1], i)
    return Seating(i + 1, j + 1, north_south, east_west, 1 + (triple[2] + i) % m)


def cycle_seatings(m, triples):
    return [cycle_seating(m, triples[j], i, j) for i, j in steps(m, len(triples))]


def circle_seating(n, i, j):
    if j == 0:
        return Seating(i + 1, 1, n, i + 1, i + 1)
    others = n - 1
    north_south = 1 + (i + j) % others
    east_west = 1 + (i + others - j) % others
    return Seating(i + 1, j + 1, north_south, east_west, i + 1)


def circle_seatings(n):
    return [circle_seating(n, i, j) for i, j in steps(n - 1, n // 2)]
