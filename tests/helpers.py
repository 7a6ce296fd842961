"""Calls by name, and what they answer and leave behind."""

from pairrounds.movement import answers, answers_on
from pairrounds.seating import Movement

HUGE = 10 ** 18

CLEAR = [2]
CHECK = [8]


def put(r, t, n, e, b):
    return [0, r, t, n, e, b]


def lift(r, t):
    return [1, r, t]


def mitchell(n, kind):
    return [3, n, kind]


def cyclic(m, row):
    return [4, m, len(row)] + list(row)


def robin(n):
    return [5, n]


def switch(r):
    return [6, r]


def renumber(p, q):
    return [7, p, q]


def joined(calls):
    return [number for call in calls for number in call]


def split(given):
    """The one list that is given back, cut into a list for each answer."""
    found = []
    start = 0
    while start < len(given):
        end = start + 1 + given[start]
        assert given[start] >= 1 and end <= len(given), given
        found.append(given[start + 1:end])
        start = end
    return found


def run(*calls):
    """The answers of these calls, a list each."""
    found = split(answers(joined(calls)))
    assert len(found) == len(calls), (calls, found)
    return found


def last(*calls):
    return run(*calls)[-1]


def left_behind(*calls):
    """The seatings after these calls, in order: round, table, north-south, east-west, set."""
    movement = Movement()
    answers_on(movement, joined(calls))
    return [
        (s.round_number, s.table, s.north_south, s.east_west, s.board_set)
        for s in movement.seatings()
    ]


def beyond(lowest, highest):
    """Numbers outside a range, next to it and far off."""
    return [lowest - 1, highest + 1, HUGE, -HUGE]
