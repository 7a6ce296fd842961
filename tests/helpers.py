"""Calls by name, and what they answer and leave behind."""

import unittest

from pairrounds.movement import answers

HUGE = 10 ** 18

CLEAR = [2]
CHECK = [8]
BALANCE = [13]
SIZE = [14]
LIST = [15]


def put(r, t, n, e, b):
    return [0, r, t, n, e, b]


def lift(r, t):
    return [1, r, t]


def mitchell(n, kind):
    return [3, n, kind]


def cyclic(m, row):
    return [4, m, len(row)] + list(row)


def robin(n):
    return [5, n]


def switch(r):
    return [6, r]


def renumber(p, q):
    return [7, p, q]


def first(kind):
    return [9, kind]


def at(p, r):
    return [10, p, r]


def between(p, q):
    return [11, p, q]


def plays(p, b):
    return [12, p, b]


def starter(m, row):
    return [16, m, len(row)] + list(row)


def missing(p):
    return [17, p]


def joined(calls):
    return [number for call in calls for number in call]


def split(given):
    """The one list that is given back, cut into a list for each answer."""
    found = []
    start = 0
    while start < len(given):
        end = start + 1 + given[start]
        assert given[start] >= 1 and end <= len(given), given
        found.append(given[start + 1:end])
        start = end
    return found


def run(*calls):
    """The answers of these calls, a list each."""
    found = split(answers(joined(calls)))
    assert len(found) == len(calls), (calls, found)
    return found


def last(*calls):
    return run(*calls)[-1]


def left_behind(*calls):
    """The seatings after these calls, in order: round, table, north-south, east-west, set."""
    told = last(*calls, LIST)
    assert told[0] == 0 and len(told) % 5 == 1, told
    return [tuple(told[k:k + 5]) for k in range(1, len(told), 5)]


def beyond(lowest, highest):
    """Numbers outside a range, next to it and far off."""
    return [lowest - 1, highest + 1, HUGE, -HUGE]


# Pair 1 sits twice in round 1, where set 5 is at two tables; 1 and 2 meet three times, twice with set 5.
HAND = [put(1, 1, 1, 2, 5), put(1, 2, 3, 1, 5), put(2, 1, 2, 1, 5), put(2, 3, 4, 3, 6), put(3, 2, 1, 2, 7)]


class Asking(unittest.TestCase):
    """For calls that tell something of the movement and change nothing."""

    def told(self, before, call, answer):
        """The call answers this, a second time too, and the movement stays as it was."""
        self.assertEqual(run(*before, call, call)[-2:], [answer, answer], call)
        self.assertEqual(left_behind(*before, call), left_behind(*before), call)

    def refused(self, call, number):
        """The call is refused by this number alone, whatever the movement, which stays."""
        for before in [[], HAND, [mitchell(20, 2)]]:
            self.told(before, call, [number])
