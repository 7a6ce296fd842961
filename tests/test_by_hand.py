"""Points 0, 1, 2, 6 and 7: put, lift, clear, switch, renumber."""

import unittest

from tests.helpers import CHECK, CLEAR, HUGE, beyond, last, left_behind, lift, mitchell, put, renumber, run, switch

SOME = [put(2, 1, 5, 6, 3), put(1, 2, 3, 4, 2), put(1, 1, 1, 2, 1)]
SOME_ROWS = [(1, 1, 1, 2, 1), (1, 2, 3, 4, 2), (2, 1, 5, 6, 3)]


class Refusing(unittest.TestCase):
    def refused(self, call, number, before=SOME):
        """The call is refused by this number alone and changes nothing."""
        self.assertEqual(last(*before, call), [number], call)
        self.assertEqual(left_behind(*before, call), left_behind(*before), call)


class Put(Refusing):
    def test_seatings_are_there_in_order(self):
        self.assertEqual(run(*SOME), [[0], [0], [0]])
        self.assertEqual(left_behind(*SOME), SOME_ROWS)

    def test_in_the_place_of_an_older_one(self):
        self.assertEqual(last(*SOME, put(1, 2, 9, 8, 7)), [0])
        self.assertEqual(
            left_behind(*SOME, put(1, 2, 9, 8, 7)),
            [(1, 1, 1, 2, 1), (1, 2, 9, 8, 7), (2, 1, 5, 6, 3)],
        )

    def test_an_older_one_counts_no_more(self):
        self.assertEqual(last(put(1, 1, 1, 2, 1), put(1, 1, 2, 1, 1), CHECK), [0, 0, 0, 0, 0])
        self.assertEqual(run(put(1, 1, 1, 2, 1), put(1, 1, 3, 4, 1), lift(1, 1), lift(1, 1))[2:], [[0], [-2]])

    def test_the_ends_of_the_ranges(self):
        calls = [put(1, 1, 1, 99, 1), put(20, 20, 99, 1, 20)]
        self.assertEqual(run(*calls), [[0], [0]])
        self.assertEqual(left_behind(*calls), [(1, 1, 1, 99, 1), (20, 20, 99, 1, 20)])

    def test_round_and_table_are_not_mixed_up(self):
        self.assertEqual(left_behind(put(2, 1, 1, 2, 1), put(1, 2, 3, 4, 1)), [(1, 2, 3, 4, 1), (2, 1, 1, 2, 1)])

    def test_a_pair_against_itself(self):
        self.refused(put(1, 2, 7, 7, 7), -3)
        self.refused(put(9, 9, 99, 99, 20), -3)

    def test_out_of_range(self):
        good = [1, 2, 9, 8, 7]
        for place, highest in enumerate([20, 20, 99, 99, 20]):
            for number in beyond(1, highest):
                call = list(good)
                call[place] = number
                self.refused(put(*call), -1)

    def test_out_of_range_comes_before_the_same_pair(self):
        for number in beyond(1, 99):
            self.refused(put(1, 2, number, number, 7), -1)
        for number in beyond(1, 20):
            self.refused(put(number, 2, 7, 7, 7), -1)
            self.refused(put(1, number, 7, 7, 7), -1)
            self.refused(put(1, 2, 7, 7, number), -1)


class Lift(Refusing):
    def test_there_is_none_any_more(self):
        self.assertEqual(run(*SOME, lift(1, 2), lift(1, 2))[3:], [[0], [-2]])
        self.assertEqual(left_behind(*SOME, lift(1, 2)), [(1, 1, 1, 2, 1), (2, 1, 5, 6, 3)])

    def test_none_there(self):
        self.refused(lift(2, 2), -2)
        self.refused(lift(20, 20), -2)
        self.refused(lift(1, 1), -2, [])

    def test_the_ends_of_the_ranges(self):
        calls = [put(20, 20, 1, 2, 3), put(1, 1, 1, 2, 3), lift(20, 20), lift(1, 1)]
        self.assertEqual(run(*calls)[2:], [[0], [0]])
        self.assertEqual(left_behind(*calls), [])

    def test_out_of_range(self):
        for number in beyond(1, 20):
            self.refused(lift(number, 1), -1)
            self.refused(lift(1, number), -1)


class Clear(Refusing):
    def test_with_seatings(self):
        self.assertEqual(last(*SOME, CLEAR), [0])
        self.assertEqual(left_behind(*SOME, CLEAR), [])
        self.assertEqual(last(*SOME, CLEAR, lift(1, 1)), [-2])
        self.assertEqual(left_behind(mitchell(20, 0), CLEAR), [])

    def test_without_seatings(self):
        self.assertEqual(run(CLEAR, CLEAR), [[0], [0]])
        self.assertEqual(left_behind(CLEAR), [])

    def test_put_goes_on_after_it(self):
        self.assertEqual(left_behind(*SOME, CLEAR, put(3, 3, 1, 2, 3)), [(3, 3, 1, 2, 3)])


class Switch(Refusing):
    def test_all_seatings_of_the_round(self):
        self.assertEqual(last(*SOME, switch(1)), [0])
        self.assertEqual(
            left_behind(*SOME, switch(1)),
            [(1, 1, 2, 1, 1), (1, 2, 4, 3, 2), (2, 1, 5, 6, 3)],
        )

    def test_twice_is_as_before(self):
        self.assertEqual(left_behind(*SOME, switch(1), switch(1)), SOME_ROWS)

    def test_a_round_of_twenty_tables(self):
        before = left_behind(mitchell(20, 0))
        after = left_behind(mitchell(20, 0), switch(20))
        self.assertEqual(after[:380], before[:380])
        self.assertEqual(after[380:], [(r, t, e, n, b) for r, t, n, e, b in before[380:]])

    def test_none_of_the_round(self):
        self.refused(switch(3), -2)
        self.refused(switch(20), -2)
        self.refused(switch(1), -2, [])
        self.refused(switch(2), -2, SOME + [lift(2, 1)])

    def test_out_of_range(self):
        for number in beyond(1, 20):
            self.refused(switch(number), -1)


class Renumber(Refusing):
    MET = [put(1, 1, 1, 2, 1), put(1, 2, 3, 1, 2), put(2, 1, 2, 4, 3), put(2, 2, 5, 6, 4)]

    def test_both_there(self):
        self.assertEqual(last(*self.MET, renumber(1, 2)), [0])
        expected = [(1, 1, 2, 1, 1), (1, 2, 3, 2, 2), (2, 1, 1, 4, 3), (2, 2, 5, 6, 4)]
        self.assertEqual(left_behind(*self.MET, renumber(1, 2)), expected)
        self.assertEqual(left_behind(*self.MET, renumber(2, 1)), expected)

    def test_one_there(self):
        expected = [(1, 1, 99, 2, 1), (1, 2, 3, 99, 2), (2, 1, 2, 4, 3), (2, 2, 5, 6, 4)]
        self.assertEqual(last(*self.MET, renumber(1, 99)), [0])
        self.assertEqual(left_behind(*self.MET, renumber(1, 99)), expected)
        self.assertEqual(left_behind(*self.MET, renumber(99, 1)), expected)

    def test_none_there(self):
        self.assertEqual(last(*self.MET, renumber(50, 60)), [0])
        self.assertEqual(left_behind(*self.MET, renumber(50, 60)), left_behind(*self.MET))
        self.assertEqual(run(renumber(1, 2)), [[0]])

    def test_p_is_q(self):
        for pair in [1, 2, 5, 99]:
            self.assertEqual(last(*self.MET, renumber(pair, pair)), [0])
            self.assertEqual(left_behind(*self.MET, renumber(pair, pair)), left_behind(*self.MET))

    def test_out_of_range(self):
        for number in beyond(1, 99):
            self.refused(renumber(number, 2), -1, self.MET)
            self.refused(renumber(1, number), -1, self.MET)
            self.refused(renumber(number, number), -1, self.MET)
        self.refused(renumber(HUGE, -HUGE), -1, self.MET)
