"""Points 11 and 13: between, balance."""

import random
from itertools import combinations

from tests.helpers import (
    BALANCE, CLEAR, HAND, Asking, between, beyond, cyclic, last, left_behind, lift, mitchell, put, renumber, robin, run,
    switch,
)
from tests.model import counted_between, counted_competing

CYCLE = cyclic(3, [3, 0, 0, 1, 2, 2])


def by_chance(seed, count, pairs, sets):
    """Puts with so few pairs and sets that pairs sit twice, meet again and play sets again."""
    source = random.Random(seed)
    spots = source.sample([(r, t) for r in range(1, 21) for t in range(1, 21)], count)
    return [put(r, t, *source.sample(range(1, pairs + 1), 2), source.randint(1, sets)) for r, t in spots]


MOVEMENTS = [
    HAND,
    HAND + [switch(1)],
    HAND + [lift(1, 2), renumber(2, 3)],
    [mitchell(1, 0)],
    [mitchell(6, 0)],
    [mitchell(6, 1)],
    [mitchell(6, 2), switch(3)],
    [CYCLE],
    [cyclic(2, [0, 1, 0, 0, 2, 1])],
    [cyclic(7, [7, 0, 0, 1, 3, 5, 2, 6, 5, 4, 5, 0])],
    [cyclic(3, [0, 1, 0] * 5)],
    [robin(2)],
    [robin(8)],
    [robin(8), switch(2), renumber(1, 99), put(20, 20, 3, 99, 1)],
] + [by_chance(seed, count, pairs, sets) for seed, (count, pairs, sets) in enumerate(
    [(1, 2, 1), (6, 2, 1), (12, 3, 2), (30, 6, 3), (30, 6, 1), (60, 12, 20), (60, 99, 4)],
)]


def pairs_of(rows):
    return sorted({pair for row in rows for pair in row[2:4]})


class Between(Asking):
    def test_no_seatings(self):
        self.told([], between(1, 2), [0, 0, 0, 0])
        self.told([], between(99, 1), [0, 0, 0, 0])

    def test_by_hand(self):
        for p, q, counts in [
            (1, 2, [3, 1, 3]), (1, 3, [1, 1, 1]), (1, 4, [0, 0, 0]), (2, 3, [1, 1, 0]), (2, 4, [0, 0, 0]), (3, 4, [0, 0, 1]),
        ]:
            self.told(HAND, between(p, q), [0] + counts)
            self.told(HAND, between(q, p), [0] + counts)

    def test_alike_both_ways(self):
        self.told([put(1, 1, 1, 2, 5), put(2, 1, 3, 4, 5)], between(1, 3), [0, 1, 0, 0])
        self.told([put(1, 1, 1, 2, 5), put(2, 1, 3, 4, 5)], between(2, 4), [0, 1, 0, 0])

    def test_unlike_both_ways(self):
        self.told([put(1, 1, 1, 2, 5), put(2, 1, 3, 4, 5)], between(1, 4), [0, 0, 1, 0])
        self.told([put(1, 1, 1, 2, 5), put(2, 1, 3, 4, 5)], between(2, 3), [0, 0, 1, 0])

    def test_in_one_round_too(self):
        self.told([put(1, 1, 1, 2, 5), put(1, 2, 3, 4, 5)], between(1, 3), [0, 1, 0, 0])

    def test_another_set_does_not_count(self):
        self.told([put(1, 1, 1, 2, 5), put(2, 1, 3, 4, 6)], between(1, 3), [0, 0, 0, 0])

    def test_a_lone_meeting_is_no_unlike(self):
        self.told([put(1, 1, 1, 2, 5)], between(1, 2), [0, 0, 0, 1])

    def test_a_meeting_beside_another_seating_of_its_set(self):
        self.told([put(1, 1, 1, 2, 5), put(2, 1, 1, 3, 5)], between(1, 2), [0, 0, 1, 1])
        self.told([put(1, 1, 1, 2, 5), put(2, 1, 3, 1, 5)], between(1, 2), [0, 1, 0, 1])
        self.told([put(1, 1, 1, 2, 5), put(2, 1, 2, 3, 5)], between(1, 2), [0, 1, 0, 1])
        self.told([put(1, 1, 1, 2, 5), put(2, 1, 3, 2, 5)], between(1, 2), [0, 0, 1, 1])
        self.told([put(1, 1, 1, 2, 5), put(2, 1, 3, 4, 5)], between(1, 2), [0, 0, 0, 1])

    def test_two_meetings_with_one_set(self):
        self.told([put(1, 1, 1, 2, 5), put(2, 1, 1, 2, 5)], between(1, 2), [0, 0, 2, 2])
        self.told([put(1, 1, 1, 2, 5), put(2, 1, 2, 1, 5)], between(1, 2), [0, 2, 0, 2])

    def test_made_by_rule(self):
        self.told([mitchell(2, 0)], between(1, 2), [0, 2, 0, 0])
        self.told([mitchell(2, 0)], between(3, 4), [0, 0, 0, 0])
        self.told([mitchell(2, 0)], between(1, 3), [0, 0, 1, 1])
        self.told([mitchell(19, 0)], between(1, 19), [0, 19, 0, 0])
        self.told([mitchell(19, 0)], between(1, 20), [0, 0, 18, 1])
        self.told([CYCLE], between(1, 2), [0, 0, 1, 1])
        self.told([CYCLE], between(3, 4), [0, 1, 1, 1])
        for p, q in combinations(range(1, 5), 2):
            self.told([robin(4)], between(p, q), [0, 1, 1, 1])

    def test_one_not_in_any_seating(self):
        self.told(HAND, between(1, 99), [0, 0, 0, 0])
        self.told(HAND, between(99, 1), [0, 0, 0, 0])

    def test_every_two_against_the_count(self):
        for calls in MOVEMENTS:
            rows = left_behind(*calls)
            pairs = pairs_of(rows)
            asked = list(combinations(pairs[:12] + [98], 2))
            given = run(*calls, *[between(p, q) for p, q in asked], *[between(q, p) for p, q in asked])[len(calls):]
            expected = [[0, *counted_between(rows, p, q)] for p, q in asked]
            self.assertEqual(given, expected + expected, calls)

    def test_a_full_movement_against_the_count(self):
        calls = [mitchell(20, 0)] + by_chance(7, 60, 99, 20)
        rows = left_behind(*calls)
        self.assertEqual(len(rows), 400)
        for p, q in combinations(pairs_of(rows)[::7], 2):
            self.assertEqual(last(*calls, between(p, q)), [0, *counted_between(rows, p, q)], (p, q))

    def test_a_pair_and_itself(self):
        for pair in [1, 2, 50, 99]:
            self.refused(between(pair, pair), -3)

    def test_out_of_range(self):
        for number in beyond(1, 99):
            self.refused(between(number, 1), -1)
            self.refused(between(1, number), -1)

    def test_out_of_range_comes_before_the_same_pair(self):
        for number in beyond(1, 99):
            self.refused(between(number, number), -1)


class Balance(Asking):
    def test_no_seatings(self):
        self.told([], BALANCE, [0, 0, 0, 0])
        self.told(HAND + [CLEAR], BALANCE, [0, 0, 0, 0])

    def test_one_seating(self):
        self.told([put(1, 1, 1, 2, 5)], BALANCE, [0, 0, 0, 1])
        self.told([put(20, 20, 99, 1, 20)], BALANCE, [0, 0, 0, 1])

    def test_two_seatings(self):
        # Two that are alike, two that are unlike, and two meetings with one other seating of the set each.
        self.told([put(1, 1, 1, 2, 5), put(2, 1, 3, 4, 5)], BALANCE, [0, -2, 6, 6])
        self.told([put(1, 1, 1, 2, 5), put(2, 1, 3, 4, 6)], BALANCE, [0, 0, 0, 6])
        self.told([put(1, 1, 1, 2, 5), put(2, 1, 1, 2, 5)], BALANCE, [0, -4, 16, 1])
        self.told([put(1, 1, 1, 2, 5), put(2, 1, 2, 1, 5)], BALANCE, [0, 0, 0, 1])

    def test_by_hand(self):
        self.told(HAND, BALANCE, [0, -4, 8, 6])

    def test_made_by_rule(self):
        self.told([mitchell(2, 0)], BALANCE, [0, -6, 20, 6])
        self.told([robin(4)], BALANCE, [0, -6, 6, 6])
        self.told([robin(2)], BALANCE, [0, 0, 0, 1])

    def test_sets_played_again(self):
        # 1, 3 and 5 are alike with one another; 2 is unlike each of them twice and meets it beside two seatings.
        calls = [put(1, 1, 1, 2, 5), put(2, 1, 3, 2, 5), put(3, 1, 5, 2, 5)]
        self.told(calls, BALANCE, [0, 3 - 3 * 4, 3 + 3 * 16, 6])
        # 8 that are alike, 4 unlike, and four meetings beside three seatings each.
        calls = [put(1, 1, 1, 2, 5), put(2, 1, 2, 1, 5), put(3, 1, 1, 2, 5), put(4, 1, 2, 1, 5)]
        self.told(calls, BALANCE, [0, 8 - 4 - 4 * 3, 64, 1])

    def test_no_two_for_a_pair_in_no_seating(self):
        self.told(HAND + [lift(2, 3)], BALANCE, [0, -4, 8, 3])
        self.told(HAND + [renumber(4, 99)], BALANCE, [0, -4, 8, 6])

    def test_against_the_count(self):
        for calls in MOVEMENTS:
            rows = left_behind(*calls)
            amounts = [counted_competing(rows, p, q) for p, q in combinations(pairs_of(rows), 2)]
            self.told(calls, BALANCE, [0, sum(amounts), sum(much * much for much in amounts), len(amounts)])

    def test_a_full_movement_against_the_count(self):
        for calls in [[mitchell(20, 0)], [mitchell(20, 2)] + by_chance(8, 60, 99, 20), by_chance(9, 300, 99, 20)]:
            rows = left_behind(*calls)
            amounts = [counted_competing(rows, p, q) for p, q in combinations(pairs_of(rows), 2)]
            self.told(calls, BALANCE, [0, sum(amounts), sum(much * much for much in amounts), len(amounts)])

    def test_it_follows_from_between(self):
        calls = by_chance(10, 25, 7, 3)
        rows = left_behind(*calls)
        amounts = []
        for p, q in combinations(pairs_of(rows), 2):
            alike, unlike, meet = last(*calls, between(p, q))[1:]
            met = [row for row in rows if {p, q} == set(row[2:4])]
            self.assertEqual(len(met), meet)
            amounts.append(alike - unlike - sum([row[4] for row in rows].count(one[4]) - 1 for one in met))
        self.told(calls, BALANCE, [0, sum(amounts), sum(much * much for much in amounts), len(amounts)])
