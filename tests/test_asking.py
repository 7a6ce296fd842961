"""Points 9, 10, 12, 14, 15 and 17: first, at, plays, size, list, missing."""

from tests.helpers import (
    CLEAR, HAND, LIST, SIZE, Asking, at, beyond, cyclic, first, last, lift, missing, mitchell, plays, put, renumber,
    robin, run, switch,
)

CYCLE = cyclic(3, [3, 0, 0, 1, 2, 2])
CYCLE_ROWS = [
    1, 1, 4, 1, 1, 1, 2, 2, 3, 3,
    2, 1, 4, 2, 2, 2, 2, 3, 1, 1,
    3, 1, 4, 3, 3, 3, 2, 1, 2, 2,
]


class First(Asking):
    def test_no_fault(self):
        for kind in [1, 2, 3, 4]:
            self.told([], first(kind), [0])
            self.told([put(1, 1, 1, 2, 1), put(1, 2, 3, 4, 2), put(2, 1, 1, 3, 3)], first(kind), [0])
            self.told([mitchell(5, 0)], first(kind), [0])
            self.told([mitchell(6, 1)], first(kind), [0])

    def test_by_hand(self):
        for kind, fault in [(1, [1, 1]), (2, [1, 5]), (3, [1, 2]), (4, [1, 5])]:
            self.told(HAND, first(kind), [0] + fault)

    def test_the_only_fault_of_each_kind(self):
        self.told([put(3, 1, 8, 9, 1), put(3, 2, 7, 8, 2)], first(1), [0, 3, 8])
        self.told([put(3, 1, 8, 9, 17), put(4, 1, 7, 8, 17)], first(2), [0, 8, 17])
        self.told([put(3, 1, 9, 8, 1), put(4, 1, 9, 8, 2)], first(3), [0, 8, 9])
        self.told([put(3, 1, 9, 8, 1), put(4, 1, 8, 9, 2)], first(3), [0, 8, 9])
        self.told([put(3, 1, 1, 2, 17), put(3, 9, 3, 4, 17)], first(4), [0, 3, 17])

    def test_kinds_are_not_mixed_up(self):
        only = {
            1: [put(3, 1, 8, 9, 1), put(3, 2, 7, 8, 2)],
            2: [put(3, 1, 8, 9, 17), put(4, 1, 7, 8, 17)],
            3: [put(3, 1, 9, 8, 1), put(4, 1, 9, 8, 2)],
            4: [put(3, 1, 1, 2, 17), put(3, 9, 3, 4, 17)],
        }
        for made in only:
            for kind in only:
                self.assertEqual(len(last(*only[made], first(kind))), 3 if kind == made else 1, (made, kind))

    def test_of_several_the_first_by_number(self):
        # A fault with a greater first number comes earlier in the movement, or has a smaller second number.
        self.told([
            put(10, 1, 1, 2, 1), put(10, 2, 1, 3, 2), put(9, 1, 50, 60, 3), put(9, 2, 60, 50, 4),
        ], first(1), [0, 9, 50])
        self.told([
            put(1, 1, 30, 40, 1), put(2, 1, 30, 50, 1), put(3, 1, 9, 60, 20), put(4, 1, 70, 9, 20),
            put(5, 1, 9, 80, 15), put(6, 1, 9, 90, 15),
        ], first(2), [0, 9, 15])
        self.told([
            put(1, 1, 10, 20, 1), put(2, 1, 10, 20, 2), put(3, 1, 99, 9, 3), put(4, 1, 9, 99, 4),
            put(5, 1, 98, 9, 5), put(6, 1, 98, 9, 6),
        ], first(3), [0, 9, 98])
        self.told([
            put(10, 1, 1, 2, 1), put(10, 2, 3, 4, 1), put(9, 1, 1, 3, 20), put(9, 2, 2, 4, 20),
            put(9, 3, 5, 6, 19), put(9, 4, 7, 8, 19),
        ], first(4), [0, 9, 19])

    def test_made_by_rule(self):
        self.told([mitchell(4, 0)], first(2), [0, 5, 1])
        self.told([mitchell(4, 2)], first(4), [0, 1, 1])
        self.told([robin(6)], first(4), [0, 1, 1])
        self.told([cyclic(2, [0, 1, 0, 0, 2, 1])], first(1), [0, 1, 1])
        self.told([cyclic(2, [0, 1, 0, 0, 2, 1])], first(3), [0, 1, 2])
        self.told([CYCLE], first(2), [0, 1, 1])

    def test_after_changes(self):
        self.told(HAND + [lift(1, 1)], first(1), [0])
        self.told(HAND + [lift(1, 1)], first(3), [0, 1, 2])
        self.told(HAND + [renumber(1, 99)], first(3), [0, 2, 99])
        self.told(HAND + [renumber(1, 99)], first(2), [0, 2, 5])
        self.told(HAND + [switch(2)], first(3), [0, 1, 2])
        self.told(HAND + [CLEAR], first(1), [0])

    def test_out_of_range(self):
        for number in beyond(1, 4):
            self.refused(first(number), -1)


class At(Asking):
    def test_no_seatings(self):
        for pair in [1, 99]:
            for round_number in [1, 20]:
                self.told([], at(pair, round_number), [0])

    def test_both_directions(self):
        self.told(HAND, at(1, 3), [0, 2, 1, 2, 7])
        self.told(HAND, at(2, 3), [0, 2, 2, 1, 7])
        self.told(HAND, at(3, 2), [0, 3, 2, 4, 6])
        self.told(HAND, at(4, 2), [0, 3, 1, 3, 6])

    def test_the_first_of_several_tables(self):
        self.told(HAND, at(1, 1), [0, 1, 1, 2, 5])
        self.told(HAND + [lift(1, 1)], at(1, 1), [0, 2, 2, 3, 5])
        self.told([put(1, 10, 1, 2, 3), put(1, 9, 4, 1, 5)], at(1, 1), [0, 9, 2, 4, 5])

    def test_not_in_the_round(self):
        self.told(HAND, at(4, 1), [0])
        self.told(HAND, at(3, 3), [0])
        self.told(HAND, at(1, 4), [0])
        self.told(HAND, at(99, 1), [0])

    def test_after_changes(self):
        self.told(HAND + [switch(1)], at(1, 1), [0, 1, 2, 2, 5])
        self.told(HAND + [renumber(1, 2)], at(1, 1), [0, 1, 2, 2, 5])
        self.told(HAND + [renumber(4, 99)], at(99, 2), [0, 3, 1, 3, 6])

    def test_made_by_rule(self):
        self.told([mitchell(3, 0)], at(6, 2), [0, 1, 2, 1, 2])
        self.told([mitchell(20, 0)], at(20, 20), [0, 20, 1, 21, 19])
        self.told([CYCLE], at(4, 2), [0, 1, 1, 2, 2])
        self.told([CYCLE], at(1, 2), [0, 2, 2, 3, 1])
        self.told([robin(6)], at(5, 3), [0, 3, 1, 1, 3])

    def test_the_ends_of_the_ranges(self):
        self.told([put(20, 20, 99, 1, 20)], at(99, 20), [0, 20, 1, 1, 20])
        self.told([put(1, 1, 99, 1, 1)], at(1, 1), [0, 1, 2, 99, 1])

    def test_out_of_range(self):
        for number in beyond(1, 99):
            self.refused(at(number, 1), -1)
        for number in beyond(1, 20):
            self.refused(at(1, number), -1)
        self.refused(at(0, 21), -1)


class Plays(Asking):
    def test_no_seatings(self):
        self.told([], plays(1, 1), [0, 0])
        self.told([], plays(99, 20), [0, 0])

    def test_by_hand(self):
        for pair, often in [(1, [3, 0, 1]), (2, [2, 0, 1]), (3, [1, 1, 0]), (4, [0, 1, 0]), (99, [0, 0, 0])]:
            for board_set, count in zip([5, 6, 7], often):
                self.told(HAND, plays(pair, board_set), [0, count])
        self.told(HAND, plays(1, 20), [0, 0])

    def test_at_every_table(self):
        everywhere = [put(r, t, 99, t, 20) for r in range(1, 16) for t in range(1, 21)]
        self.told(everywhere, plays(99, 20), [0, 300])
        self.told(everywhere, plays(1, 20), [0, 15])

    def test_made_by_rule(self):
        for board_set in range(1, 5):
            self.told([mitchell(4, 0)], plays(1, board_set), [0, 1])
            self.told([mitchell(4, 0)], plays(5, board_set), [0, 2 if board_set % 2 == 1 else 0])
        self.told([CYCLE], plays(1, 1), [0, 2])
        self.told([CYCLE], plays(1, 3), [0, 0])
        self.told([CYCLE], plays(4, 3), [0, 1])
        self.told([robin(8)], plays(8, 7), [0, 1])
        self.told([robin(8)], plays(8, 8), [0, 0])

    def test_after_changes(self):
        self.told(HAND + [lift(1, 1)], plays(1, 5), [0, 2])
        self.told(HAND + [switch(1)], plays(1, 5), [0, 3])
        self.told(HAND + [renumber(1, 4)], plays(1, 5), [0, 0])
        self.told(HAND + [renumber(1, 4)], plays(4, 5), [0, 3])

    def test_out_of_range(self):
        for number in beyond(1, 99):
            self.refused(plays(number, 1), -1)
        for number in beyond(1, 20):
            self.refused(plays(1, number), -1)


class Size(Asking):
    def test_no_seatings(self):
        self.told([], SIZE, [0, 0, 0, 0, 0])
        self.told(HAND + [CLEAR], SIZE, [0, 0, 0, 0, 0])
        self.told([cyclic(19, [])], SIZE, [0, 0, 0, 0, 0])

    def test_by_hand(self):
        self.told(HAND, SIZE, [0, 4, 3, 3, 3])
        self.told([put(20, 20, 99, 1, 20)], SIZE, [0, 2, 1, 1, 1])

    def test_each_number_by_itself(self):
        start = put(1, 1, 1, 2, 1)
        self.told([start, put(1, 2, 2, 1, 1)], SIZE, [0, 2, 1, 2, 1])
        self.told([start, put(2, 1, 2, 1, 1)], SIZE, [0, 2, 2, 1, 1])
        self.told([start, put(2, 1, 2, 1, 2)], SIZE, [0, 2, 2, 1, 2])
        self.told([start, put(2, 1, 3, 1, 1)], SIZE, [0, 3, 2, 1, 1])
        self.told([start, put(2, 1, 3, 4, 1)], SIZE, [0, 4, 2, 1, 1])

    def test_different_numbers_not_the_highest(self):
        self.told([put(7, 9, 50, 60, 11), put(3, 9, 60, 70, 12), put(3, 4, 50, 70, 19)], SIZE, [0, 3, 2, 2, 3])

    def test_made_by_rule(self):
        self.told([mitchell(4, 1)], SIZE, [0, 8, 3, 4, 4])
        self.told([mitchell(4, 2)], SIZE, [0, 8, 4, 4, 4])
        self.told([mitchell(20, 0)], SIZE, [0, 40, 20, 20, 20])
        self.told([CYCLE], SIZE, [0, 4, 3, 2, 3])
        self.told([cyclic(1, [0, 1, 0])], SIZE, [0, 2, 1, 1, 1])
        self.told([robin(20)], SIZE, [0, 20, 19, 10, 19])

    def test_after_changes(self):
        self.told(HAND + [lift(2, 3)], SIZE, [0, 3, 3, 2, 2])
        self.told(HAND + [renumber(4, 99), switch(2)], SIZE, [0, 4, 3, 3, 3])


class List(Asking):
    def test_no_seatings(self):
        self.told([], LIST, [0])
        self.told(HAND + [CLEAR], LIST, [0])

    def test_by_hand(self):
        self.told(HAND, LIST, [0, 1, 1, 1, 2, 5, 1, 2, 3, 1, 5, 2, 1, 2, 1, 5, 2, 3, 4, 3, 6, 3, 2, 1, 2, 7])

    def test_in_order_by_rounds_then_by_tables(self):
        spots = [(10, 1), (9, 10), (2, 20), (9, 9), (10, 2), (1, 3), (20, 1), (2, 3)]
        told = last(*[put(r, t, 5, 6, 7) for r, t in spots], LIST)
        self.assertEqual(told, [0] + [number for r, t in sorted(spots) for number in (r, t, 5, 6, 7)])

    def test_an_older_one_keeps_its_place(self):
        self.told(
            [put(1, 2, 3, 4, 5), put(1, 1, 1, 2, 3), put(1, 2, 9, 8, 7)], LIST, [0, 1, 1, 1, 2, 3, 1, 2, 9, 8, 7],
        )

    def test_made_by_rule(self):
        self.told([mitchell(2, 0)], LIST, [0, 1, 1, 1, 3, 1, 1, 2, 2, 4, 2, 2, 1, 1, 4, 2, 2, 2, 2, 3, 1])
        self.told([CYCLE], LIST, [0] + CYCLE_ROWS)
        self.told([robin(2)], LIST, [0, 1, 1, 2, 1, 1])

    def test_after_changes(self):
        some = [put(1, 1, 1, 2, 3), put(2, 2, 3, 1, 4)]
        self.told(some + [switch(2)], LIST, [0, 1, 1, 1, 2, 3, 2, 2, 1, 3, 4])
        self.told(some + [renumber(3, 2)], LIST, [0, 1, 1, 1, 3, 3, 2, 2, 2, 1, 4])
        self.told(some + [lift(1, 1)], LIST, [0, 2, 2, 3, 1, 4])

    def test_a_full_movement(self):
        told = last(mitchell(20, 0), LIST)
        self.assertEqual(len(told), 2001)
        self.assertEqual(told[-5:], [20, 20, 20, 21, 19])


class Missing(Asking):
    def test_no_seatings(self):
        self.told([], missing(1), [0, 0, 0])
        self.told([], missing(99), [0, 0, 0])

    def test_by_hand(self):
        self.told(HAND, missing(1), [0, 1, 1])
        self.told(HAND, missing(2), [0, 2, 1])
        self.told(HAND, missing(3), [0, 1, 1])
        self.told(HAND, missing(4), [0, 2, 2])

    def test_a_pair_in_no_seating(self):
        self.told(HAND, missing(5), [0, 4, 3])
        self.told(HAND, missing(99), [0, 4, 3])
        self.told([mitchell(20, 0)], missing(41), [0, 40, 20])

    def test_made_by_rule(self):
        self.told([mitchell(3, 0)], missing(1), [0, 2, 0])
        self.told([mitchell(3, 0)], missing(6), [0, 2, 0])
        self.told([mitchell(4, 0)], missing(5), [0, 3, 2])
        self.told([mitchell(4, 1)], missing(1), [0, 4, 1])
        self.told([CYCLE], missing(1), [0, 0, 1])
        self.told([CYCLE], missing(4), [0, 0, 0])
        for pair in range(1, 9):
            self.told([robin(8)], missing(pair), [0, 0, 0])

    def test_after_changes(self):
        self.told(HAND + [lift(2, 3)], missing(1), [0, 0, 0])
        self.told(HAND + [lift(3, 2)], missing(1), [0, 1, 1])
        self.told(HAND + [switch(1), renumber(1, 99)], missing(99), [0, 1, 1])
        self.told(HAND + [renumber(1, 99)], missing(1), [0, 4, 3])

    def test_out_of_range(self):
        for number in beyond(1, 99):
            self.refused(missing(number), -1)


class OnTheWay(Asking):
    def test_answers_follow_each_change(self):
        given = run(SIZE, put(1, 1, 1, 2, 3), SIZE, at(2, 1), put(1, 1, 2, 1, 4), at(2, 1), plays(2, 3), lift(1, 1), SIZE)
        self.assertEqual(given, [
            [0, 0, 0, 0, 0], [0], [0, 2, 1, 1, 1], [0, 1, 2, 1, 3], [0], [0, 1, 1, 1, 4], [0, 0], [0], [0, 0, 0, 0, 0],
        ])
