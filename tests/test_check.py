"""Point 8: check."""

import unittest

from pairrounds.faults import faults_of
from pairrounds.seating import Seating
from tests.helpers import CHECK, CLEAR, cyclic, last, left_behind, lift, put, renumber, run, switch


class Check(unittest.TestCase):
    def counted(self, calls, counts):
        """So many faults of the four kinds, and the movement stays as it is."""
        self.assertEqual(last(*calls, CHECK), [0] + counts)
        self.assertEqual(run(*calls, CHECK, CHECK)[-2:], [[0] + counts, [0] + counts])
        self.assertEqual(left_behind(*calls, CHECK), left_behind(*calls))

    def test_no_seatings(self):
        self.counted([], [0, 0, 0, 0])
        self.counted([put(1, 1, 1, 2, 1), CLEAR], [0, 0, 0, 0])

    def test_no_faults(self):
        self.counted([put(1, 1, 1, 2, 1), put(1, 2, 3, 4, 2), put(2, 1, 1, 3, 3)], [0, 0, 0, 0])

    def test_a_pair_sits_twice(self):
        self.counted([put(1, 1, 1, 2, 1), put(1, 2, 1, 3, 2)], [1, 0, 0, 0])
        self.counted([put(1, 1, 1, 2, 1), put(1, 2, 3, 1, 2)], [1, 0, 0, 0])
        self.counted([put(1, 1, 1, 2, 1), put(1, 20, 3, 2, 2)], [1, 0, 0, 0])

    def test_a_pair_that_sits_three_times_is_one_fault(self):
        self.counted([put(1, 1, 1, 2, 1), put(1, 2, 3, 1, 2), put(1, 3, 1, 4, 3)], [1, 0, 0, 0])

    def test_a_pair_that_sits_twice_in_two_rounds(self):
        calls = [put(1, 1, 1, 2, 1), put(1, 2, 1, 3, 2), put(2, 1, 4, 1, 3), put(2, 2, 1, 5, 4)]
        self.counted(calls, [2, 0, 0, 0])

    def test_a_pair_plays_a_set_twice(self):
        self.counted([put(1, 1, 1, 2, 5), put(2, 1, 1, 3, 5)], [0, 1, 0, 0])
        self.counted([put(1, 1, 1, 2, 5), put(2, 1, 3, 1, 5)], [0, 1, 0, 0])
        self.counted([put(1, 1, 1, 2, 5), put(2, 1, 1, 3, 5), put(20, 20, 4, 1, 5)], [0, 1, 0, 0])

    def test_both_pairs_play_sets_again(self):
        calls = [put(1, 1, 1, 2, 5), put(2, 1, 1, 3, 5), put(3, 1, 4, 2, 5), put(4, 1, 1, 5, 6), put(5, 1, 6, 1, 6)]
        self.counted(calls, [0, 3, 0, 0])

    def test_two_pairs_meet_again(self):
        self.counted([put(1, 1, 1, 2, 1), put(2, 1, 1, 2, 2)], [0, 0, 1, 0])

    def test_two_pairs_meet_again_in_the_other_direction(self):
        self.counted([put(1, 1, 1, 2, 1), put(2, 1, 2, 1, 2)], [0, 0, 1, 0])
        self.counted([put(1, 1, 1, 2, 1), put(2, 1, 1, 2, 2), switch(2)], [0, 0, 1, 0])

    def test_two_pairs_that_meet_three_times_are_one_fault(self):
        self.counted([put(1, 1, 1, 2, 1), put(2, 1, 2, 1, 2), put(3, 1, 1, 2, 3)], [0, 0, 1, 0])

    def test_a_set_at_two_and_at_three_tables(self):
        self.counted([put(1, 1, 1, 2, 7), put(1, 2, 3, 4, 7)], [0, 0, 0, 1])
        self.counted([put(1, 1, 1, 2, 7), put(1, 2, 3, 4, 7), put(1, 3, 5, 6, 7)], [0, 0, 0, 1])

    def test_a_set_at_two_tables_of_two_rounds(self):
        calls = [put(1, 1, 1, 2, 7), put(1, 2, 3, 4, 7), put(2, 1, 5, 6, 7), put(2, 2, 7, 8, 7)]
        self.counted(calls, [0, 0, 0, 2])
        self.counted([put(1, 1, 1, 2, 7), put(2, 2, 3, 4, 7)], [0, 0, 0, 0])

    def test_two_sets_at_two_tables_each(self):
        calls = [put(1, 1, 1, 2, 7), put(1, 2, 3, 4, 7), put(1, 3, 5, 6, 8), put(1, 4, 7, 8, 8)]
        self.counted(calls, [0, 0, 0, 2])

    def test_all_kinds_at_once(self):
        self.counted([put(1, 1, 1, 2, 3), put(1, 2, 2, 1, 3)], [2, 2, 1, 1])
        self.counted([put(1, t, 1, 2, 3) for t in range(1, 21)], [2, 2, 1, 1])

    def test_after_lift_and_renumber(self):
        twice = [put(1, 1, 1, 2, 3), put(1, 2, 2, 1, 3)]
        self.counted(twice + [lift(1, 2)], [0, 0, 0, 0])
        self.counted([put(1, 1, 1, 2, 1), put(1, 2, 3, 4, 2), put(2, 1, 5, 2, 3), renumber(1, 5)], [0, 0, 0, 0])
        self.counted([put(1, 1, 1, 2, 1), put(2, 1, 5, 2, 2), renumber(5, 1)], [0, 0, 0, 0])

    def test_a_full_movement(self):
        row = [0, 1, 0] * 20
        self.counted([cyclic(19, row)], [38, 38, 19, 19])


class Faults(unittest.TestCase):
    def test_in_order_by_their_numbers(self):
        seatings = [
            Seating(1, 1, 12, 11, 9), Seating(1, 2, 11, 12, 9), Seating(2, 1, 3, 2, 10), Seating(2, 2, 2, 3, 10),
            Seating(2, 3, 3, 1, 4), Seating(2, 4, 1, 3, 4),
        ]
        self.assertEqual(faults_of(seatings, 1), [(1, 11), (1, 12), (2, 1), (2, 2), (2, 3)])
        self.assertEqual(faults_of(seatings, 2), [(1, 4), (2, 10), (3, 4), (3, 10), (11, 9), (12, 9)])
        self.assertEqual(faults_of(seatings, 3), [(1, 3), (2, 3), (11, 12)])
        self.assertEqual(faults_of(seatings, 4), [(1, 9), (2, 4), (2, 10)])
