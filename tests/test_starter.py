"""Point 16: starter."""

from tests.helpers import CHECK, HAND, Asking, beyond, cyclic, left_behind, robin, run, starter

GOOD = [1, 3, 0, 6, 2, 2, 4, 5, 6, 7, 0, 5]


class Starter(Asking):
    def answered(self, m, row, differences, leads):
        self.told([], starter(m, row), [0, differences, leads])
        self.told(HAND, starter(m, row), [0, differences, leads])

    def test_no_table(self):
        for m in [1, 2, 19]:
            self.answered(m, [], 1, 1)

    def test_one_table(self):
        # Differences 1 and 2; leads 1 and 2.
        self.answered(3, [0, 2, 1], 1, 1)
        # Differences 2 and 3; leads 0 and 2.
        self.answered(5, [2, 0, 2], 1, 1)

    def test_a_good_first_round(self):
        # Differences 5, 2, 4, 3, 6, 1; leads 6, 4, 3, 0, 2, 1 and, beside the number m, 5.
        self.answered(7, GOOD, 1, 1)

    def test_a_good_first_round_with_one_number_changed(self):
        # The set of the last table 1 further: leads 6 twice. Then its number too: leads 5 again, but so no difference.
        self.answered(7, GOOD[:11] + [6], 1, 0)
        self.answered(7, GOOD[:10] + [1, 6], 1, 1)
        # The last table's m as another number: differences 1 and 6 twice, leads 5 and 4.
        self.answered(7, GOOD[:9] + [1, 0, 5], 0, 0)

    def test_a_difference_twice_at_one_table(self):
        # Half of m is the same both ways round.
        self.answered(2, [0, 1, 0], 0, 1)
        self.answered(4, [1, 3, 0], 0, 1)
        self.answered(4, [3, 1, 0], 0, 1)
        self.answered(18, [17, 8, 0], 0, 1)

    def test_a_difference_twice_at_two_tables(self):
        # Differences 1, 6 and 6, 1; leads 0, 6 and 1, 2.
        self.answered(7, [0, 1, 0, 4, 3, 5], 0, 1)
        self.answered(7, [0, 1, 0, 3, 4, 5], 0, 1)

    def test_a_lead_twice(self):
        # Differences 1, 6, 2, 5; leads 0, 6 and 0, 5.
        self.answered(7, [0, 1, 0, 2, 4, 2], 1, 0)
        # Leads 0, 6 and 1, 6.
        self.answered(7, [0, 1, 0, 4, 2, 1], 1, 0)
        # Leads 0, 6 and 5, 3.
        self.answered(7, [0, 1, 0, 2, 4, 0], 1, 1)

    def test_both_twice(self):
        self.answered(7, [0, 1, 0, 0, 1, 0], 0, 0)
        self.answered(7, [0, 1, 0, 3, 4, 3], 0, 0)

    def test_values_three_times(self):
        self.answered(19, [0, 1, 0] * 3, 0, 0)
        self.answered(19, [0, 1, 0] * 20, 0, 0)

    def test_a_number_that_is_m_has_no_difference_and_no_lead(self):
        self.answered(1, [0, 1, 0], 1, 1)
        self.answered(1, [1, 0, 0], 1, 1)
        # Were m counted as 0, the difference would be 0 twice and the leads 0 twice.
        self.answered(3, [3, 0, 0], 1, 1)
        self.answered(3, [0, 3, 0], 1, 1)
        # Half of m from m as 0, on either side.
        self.answered(4, [4, 2, 0], 1, 1)
        self.answered(4, [2, 4, 0], 1, 1)

    def test_m_at_more_than_one_table(self):
        # Leads 0 and 6, then 0 and 0.
        self.answered(7, [7, 0, 0, 1, 7, 0], 1, 1)
        self.answered(7, [7, 0, 0, 1, 7, 1], 1, 0)
        self.answered(7, [7, 0, 0, 7, 0, 0], 1, 0)

    def test_m_beside_other_tables(self):
        # Differences of the second table alone: 1, 2. Leads 0, then 1, 0.
        self.answered(3, [3, 0, 0, 1, 2, 2], 1, 0)
        # Leads 1, then 2, 1; and 1, then 0, 2.
        self.answered(3, [3, 0, 1, 2, 0, 1], 1, 0)
        self.answered(3, [3, 0, 1, 1, 2, 1], 1, 1)

    def test_the_rest_is_from_0_on(self):
        # Leads 3 less 0 and 0 less 4, modulo 7: both 3.
        self.answered(7, [0, 7, 3, 4, 7, 0], 1, 0)
        # Differences 1 less 3 and 6 less 1, modulo 7: both 5.
        self.answered(7, [1, 3, 0, 6, 1, 2], 0, 1)

    def test_what_it_says_of_the_movement(self):
        # With each difference and each lead once, nobody meets twice and nobody plays a set twice.
        self.assertEqual(run(starter(7, GOOD), cyclic(7, GOOD), CHECK), [[0, 1, 1], [0, 28], [0, 0, 0, 0, 0]])

    def test_changes_nothing(self):
        for before in [[], HAND, [robin(6)]]:
            for row in [[], [3, 0, 1, 1, 2, 1], [0, 1, 0] * 20, [0, 0, 0], [0]]:
                self.assertEqual(left_behind(*before, starter(3, row)), left_behind(*before))

    def test_a_row_whose_count_is_not_told(self):
        for count in range(0, 101):
            row = ([0, 1, 0] * 34)[:count]
            if count % 3 == 0 and count <= 60:
                self.assertEqual(run(starter(5, row)), [[0, 1, 1] if count <= 3 else [0, 0, 0]])
            else:
                self.assertEqual(run(starter(5, row)), [[-1]], count)
        for row in [[0], [0, 1], [0, 1, 0, 0], [0, 1, 0] * 20 + [0], [0, 1, 0] * 21, [0] * 100]:
            self.refused(starter(5, row), -1)

    def test_a_number_of_the_row_out_of_range(self):
        for place in range(6):
            for number in beyond(0, 19):
                row = [0, 1, 0, 2, 3, 1]
                row[place] = number
                self.refused(starter(5, row), -1)

    def test_m_out_of_range(self):
        for number in beyond(1, 19):
            self.refused(starter(number, [0, 1, 0]), -1)
            self.refused(starter(number, []), -1)

    def test_the_ends_of_the_ranges(self):
        self.answered(19, [19, 18, 18, 0, 17, 0], 1, 0)
        self.answered(19, [19, 18, 18, 0, 17, 1], 1, 1)

    def test_each_cause_of_a_bad_first_round(self):
        for bad in [[6, 0, 0], [19, 0, 0], [0, 6, 0], [0, 19, 0], [3, 3, 0], [5, 5, 0], [0, 1, 5], [0, 1, 6], [0, 1, 19]]:
            self.refused(starter(5, bad), -5)
            self.refused(starter(5, [0, 1, 0] + bad), -5)
            self.refused(starter(5, [0, 1, 0] * 19 + bad), -5)

    def test_next_to_a_bad_first_round(self):
        for good in [[5, 0, 0], [0, 5, 0], [0, 1, 4], [4, 0, 4]]:
            self.answered(5, good, 1, 1)

    def test_out_of_range_comes_before_a_bad_first_round(self):
        for m, row in [
            (5, [6, 0, 0, 0, 1, 20]), (5, [3, 3, 0, -1, 1, 0]), (5, [3, 3, 0, 1]), (5, [3, 3]), (5, [3, 3, 0] * 21),
            (0, [3, 3, 0]), (20, [3, 3, 0]),
        ]:
            self.refused(starter(m, row), -1)
