"""Points 3, 4 and 5: mitchell, cyclic, robin."""

import unittest

from tests.helpers import CHECK, HUGE, beyond, cyclic, last, left_behind, mitchell, put, robin, run

OLDER = [put(20, 20, 98, 99, 20), put(1, 1, 97, 96, 19)]


class Making(unittest.TestCase):
    def made(self, call, rows):
        """The call answers how many seatings there are, and these are there alone, whatever was before."""
        self.assertEqual(run(call), [[0, len(rows)]], call)
        self.assertEqual(last(*OLDER, call), [0, len(rows)], call)
        self.assertEqual(left_behind(call), rows, call)
        self.assertEqual(left_behind(*OLDER, call), rows, call)

    def refused(self, call, number):
        """The call is refused by this number alone, and the older movement stays."""
        self.assertEqual(run(call), [[number]], call)
        self.assertEqual(last(*OLDER, call), [number], call)
        self.assertEqual(left_behind(*OLDER, call), left_behind(*OLDER), call)


class Mitchell(Making):
    def test_one_table(self):
        self.made(mitchell(1, 0), [(1, 1, 1, 2, 1)])

    def test_two_tables(self):
        self.made(mitchell(2, 0), [(1, 1, 1, 3, 1), (1, 2, 2, 4, 2), (2, 1, 1, 4, 2), (2, 2, 2, 3, 1)])
        self.made(mitchell(2, 1), [(1, 1, 1, 3, 1), (1, 2, 2, 4, 2)])
        self.made(mitchell(2, 2), [(1, 1, 1, 3, 1), (1, 2, 2, 4, 1), (2, 1, 1, 4, 2), (2, 2, 2, 3, 2)])

    def test_three_tables(self):
        self.made(mitchell(3, 0), [
            (1, 1, 1, 4, 1), (1, 2, 2, 5, 2), (1, 3, 3, 6, 3),
            (2, 1, 1, 6, 2), (2, 2, 2, 4, 3), (2, 3, 3, 5, 1),
            (3, 1, 1, 5, 3), (3, 2, 2, 6, 1), (3, 3, 3, 4, 2),
        ])

    def test_four_tables_with_a_skip(self):
        self.made(mitchell(4, 1), [
            (1, 1, 1, 5, 1), (1, 2, 2, 6, 2), (1, 3, 3, 7, 3), (1, 4, 4, 8, 4),
            (2, 1, 1, 8, 2), (2, 2, 2, 5, 3), (2, 3, 3, 6, 4), (2, 4, 4, 7, 1),
            (3, 1, 1, 6, 3), (3, 2, 2, 7, 4), (3, 3, 3, 8, 1), (3, 4, 4, 5, 2),
        ])

    def test_four_tables_with_a_relay(self):
        self.made(mitchell(4, 2), [
            (1, 1, 1, 5, 1), (1, 2, 2, 6, 2), (1, 3, 3, 7, 4), (1, 4, 4, 8, 1),
            (2, 1, 1, 8, 2), (2, 2, 2, 5, 3), (2, 3, 3, 6, 1), (2, 4, 4, 7, 2),
            (3, 1, 1, 7, 3), (3, 2, 2, 8, 4), (3, 3, 3, 5, 2), (3, 4, 4, 6, 3),
            (4, 1, 1, 6, 4), (4, 2, 2, 7, 1), (4, 3, 3, 8, 3), (4, 4, 4, 5, 4),
        ])

    def test_how_many_seatings(self):
        for n in range(1, 21):
            self.assertEqual(run(mitchell(n, 0)), [[0, n * n]])
            if n % 2 == 0:
                self.assertEqual(run(mitchell(n, 1)), [[0, n * (n - 1)]])
                self.assertEqual(run(mitchell(n, 2)), [[0, n * n]])

    def test_odd_tables_have_no_faults(self):
        for n in range(1, 20, 2):
            self.assertEqual(last(mitchell(n, 0), CHECK), [0, 0, 0, 0, 0])

    def test_what_a_skip_and_a_relay_are_for(self):
        for n in range(2, 21, 2):
            # Half way round, each east-west pair of a plain one comes to the sets that it has played.
            self.assertEqual(last(mitchell(n, 0), CHECK), [0, 0, n * (n // 2), 0, 0])
            self.assertEqual(last(mitchell(n, 1), CHECK), [0, 0, 0, 0, 0])
            self.assertEqual(last(mitchell(n, 2), CHECK), [0, 0, 0, 0, n])

    def test_odd_tables_of_another_kind(self):
        for n in range(1, 20, 2):
            self.refused(mitchell(n, 1), -4)
            self.refused(mitchell(n, 2), -4)

    def test_out_of_range(self):
        for number in beyond(1, 20):
            self.refused(mitchell(number, 0), -1)
            self.refused(mitchell(number, 1), -1)
        for number in beyond(0, 2):
            self.refused(mitchell(4, number), -1)

    def test_out_of_range_comes_before_odd(self):
        for number in beyond(0, 2):
            self.refused(mitchell(3, number), -1)
        self.refused(mitchell(21, 1), -1)
        self.refused(mitchell(HUGE - 1, 2), -1)


class Cyclic(Making):
    def test_no_table(self):
        for m in [1, 2, 19]:
            self.made(cyclic(m, []), [])

    def test_one_table(self):
        self.made(cyclic(3, [0, 2, 1]), [(1, 1, 1, 3, 2), (2, 1, 2, 1, 3), (3, 1, 3, 2, 1)])

    def test_one_round(self):
        self.made(cyclic(1, [0, 1, 0]), [(1, 1, 1, 2, 1)])
        self.made(cyclic(1, [1, 0, 0]), [(1, 1, 2, 1, 1)])

    def test_numbers_equal_to_m(self):
        self.made(cyclic(3, [3, 0, 0]), [(1, 1, 4, 1, 1), (2, 1, 4, 2, 2), (3, 1, 4, 3, 3)])
        self.made(cyclic(3, [2, 3, 2]), [(1, 1, 3, 4, 3), (2, 1, 1, 4, 1), (3, 1, 2, 4, 2)])

    def test_some_tables(self):
        self.made(cyclic(3, [3, 0, 0, 1, 2, 2]), [
            (1, 1, 4, 1, 1), (1, 2, 2, 3, 3),
            (2, 1, 4, 2, 2), (2, 2, 3, 1, 1),
            (3, 1, 4, 3, 3), (3, 2, 1, 2, 2),
        ])

    def test_a_pair_at_more_than_one_table(self):
        self.made(cyclic(2, [0, 1, 0, 0, 2, 1]), [
            (1, 1, 1, 2, 1), (1, 2, 1, 3, 2),
            (2, 1, 2, 1, 2), (2, 2, 2, 3, 1),
        ])
        self.assertEqual(last(cyclic(2, [0, 1, 0, 0, 2, 1]), CHECK)[1], 2)

    def test_twenty_tables(self):
        row = []
        for j in range(20):
            row += [19 if j == 19 else j, (j + 1) % 19, (2 * j) % 19]
        rows = left_behind(cyclic(19, row))
        self.assertEqual(run(cyclic(19, row)), [[0, 380]])
        self.assertEqual(len(rows), 380)
        self.assertEqual(rows[:2], [(1, 1, 1, 2, 1), (1, 2, 2, 3, 3)])
        self.assertEqual(rows[18:21], [(1, 19, 19, 1, 18), (1, 20, 20, 2, 1), (2, 1, 2, 3, 2)])
        self.assertEqual(rows[378:], [(19, 19, 18, 19, 17), (19, 20, 20, 1, 19)])

    def test_a_row_whose_count_is_not_told(self):
        for count in range(0, 101):
            row = ([0, 1, 0] * 34)[:count]
            if count % 3 == 0 and count <= 60:
                self.assertEqual(run(cyclic(2, row)), [[0, 2 * (count // 3)]])
            else:
                self.refused(cyclic(2, row), -1)

    def test_a_number_of_the_row_out_of_range(self):
        for place in range(6):
            for number in beyond(0, 19):
                row = [0, 1, 0, 2, 3, 1]
                row[place] = number
                self.refused(cyclic(5, row), -1)

    def test_m_out_of_range(self):
        for number in beyond(1, 19):
            self.refused(cyclic(number, [0, 1, 0]), -1)
            self.refused(cyclic(number, []), -1)

    def test_each_cause_of_a_bad_first_round(self):
        for bad in [[6, 0, 0], [19, 0, 0], [0, 6, 0], [0, 19, 0], [3, 3, 0], [5, 5, 0], [0, 1, 5], [0, 1, 6], [0, 1, 19]]:
            self.refused(cyclic(5, bad), -5)
            self.refused(cyclic(5, [0, 1, 0] + bad), -5)
            self.refused(cyclic(5, bad + [0, 1, 0]), -5)
            self.refused(cyclic(5, [0, 1, 0] * 19 + bad), -5)

    def test_next_to_a_bad_first_round(self):
        for good in [[5, 0, 0], [0, 5, 0], [0, 1, 4], [4, 0, 4]]:
            self.assertEqual(run(cyclic(5, good)), [[0, 5]])

    def test_out_of_range_comes_before_a_bad_first_round(self):
        self.refused(cyclic(5, [6, 0, 0, 0, 1, 20]), -1)
        self.refused(cyclic(5, [3, 3, 0, -1, 1, 0]), -1)
        self.refused(cyclic(5, [3, 3, 0, 1]), -1)
        self.refused(cyclic(5, [3, 3]), -1)
        self.refused(cyclic(5, [3, 3, 0] * 21), -1)
        self.refused(cyclic(0, [3, 3, 0]), -1)


class Robin(Making):
    def test_two_pairs(self):
        self.made(robin(2), [(1, 1, 2, 1, 1)])

    def test_four_pairs(self):
        self.made(robin(4), [
            (1, 1, 4, 1, 1), (1, 2, 2, 3, 1),
            (2, 1, 4, 2, 2), (2, 2, 3, 1, 2),
            (3, 1, 4, 3, 3), (3, 2, 1, 2, 3),
        ])

    def test_six_pairs(self):
        self.made(robin(6), [
            (1, 1, 6, 1, 1), (1, 2, 2, 5, 1), (1, 3, 3, 4, 1),
            (2, 1, 6, 2, 2), (2, 2, 3, 1, 2), (2, 3, 4, 5, 2),
            (3, 1, 6, 3, 3), (3, 2, 4, 2, 3), (3, 3, 5, 1, 3),
            (4, 1, 6, 4, 4), (4, 2, 5, 3, 4), (4, 3, 1, 2, 4),
            (5, 1, 6, 5, 5), (5, 2, 1, 4, 5), (5, 3, 2, 3, 5),
        ])

    def test_each_even_number(self):
        for n in range(2, 21, 2):
            rows = left_behind(robin(n))
            self.assertEqual(run(robin(n)), [[0, (n - 1) * (n // 2)]])
            self.assertEqual(last(*OLDER, robin(n)), [0, (n - 1) * (n // 2)])
            met = {frozenset(row[2:4]) for row in rows}
            self.assertEqual(met, {frozenset([p, q]) for p in range(1, n + 1) for q in range(1, p)})
            self.assertTrue(all(row[0] == row[4] for row in rows))
            # All tables of a round have its set: a fault of kind 4 for each round, once there are two tables.
            self.assertEqual(last(robin(n), CHECK), [0, 0, 0, 0, n - 1 if n > 2 else 0])

    def test_odd_numbers(self):
        for n in range(3, 20, 2):
            self.refused(robin(n), -4)

    def test_out_of_range(self):
        for number in beyond(2, 20) + [0, -1, 22, HUGE - 1]:
            self.refused(robin(number), -1)
