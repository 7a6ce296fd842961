"""How calls stand in the one list, and what is true of every list."""

import random
import unittest

from pairrounds.movement import answers
from tests.helpers import (
    CHECK, CLEAR, HUGE, beyond, cyclic, joined, left_behind, lift, mitchell, put, renumber, robin, run, split, switch,
)
from tests.model import Model


class Locked(list):
    """A list that can be read alone."""

    def locked(self, *args, **kwargs):
        raise AssertionError("what is handed in was changed")

    append = extend = insert = pop = remove = clear = sort = reverse = locked
    __setitem__ = __delitem__ = __iadd__ = __imul__ = locked


EACH = [
    put(1, 1, 1, 2, 3), put(1, 2, 1, 2, 3), CHECK, lift(1, 2), switch(1), renumber(1, 9), lift(9, 9), put(1, 1, 4, 4, 1),
    mitchell(4, 1), CHECK, mitchell(3, 1), cyclic(3, [3, 0, 0, 1, 2, 2]), CHECK, cyclic(3, [0, 0, 0]), cyclic(3, [1]),
    robin(6), CHECK, robin(7), switch(20), CLEAR, CHECK,
]
EACH_ANSWER = [
    [0], [0], [0, 2, 2, 1, 1], [0], [0], [0], [-2], [-3],
    [0, 12], [0, 0, 0, 0, 0], [-4], [0, 6], [0, 0, 3, 0, 0], [-5], [-1],
    [0, 15], [0, 0, 0, 0, 5], [-4], [-2], [0], [0, 0, 0, 0, 0],
]


def starter(m, row):
    return [16, m, len(row)] + row


# Each is followed by numbers that would be read as other calls, were it taken apart wrongly.
LATER = [
    [9, 3], [9, HUGE], [10, 2, 2], [10, -HUGE, 2], [11, 2, 8], [11, 2, 2], [12, 8, 2], [12, 0, 0], [13], [14], [15],
    starter(3, []), starter(3, [2, 2, 2]), starter(2, [0, 1, 0]), starter(8, [2] * 100), starter(-HUGE, [2]),
    starter(5, [HUGE] * 61), [17, 2], [17, 100],
]

LATER_RANGES = {
    9: [(1, 4)], 10: [(1, 99), (1, 20)], 11: [(1, 99), (1, 99)], 12: [(1, 99), (1, 20)], 16: [(1, 19)], 17: [(1, 99)],
}


class OneList(unittest.TestCase):
    def test_what_is_given_back(self):
        given = answers(joined([put(1, 1, 1, 2, 3), mitchell(2, 0), CHECK, robin(3)]))
        self.assertEqual(given, [1, 0, 2, 0, 4, 5, 0, 0, 2, 0, 0, 1, -4])

    def test_plain_whole_numbers_in_a_plain_list(self):
        given = answers(joined(EACH))
        self.assertIs(type(given), list)
        self.assertEqual({type(number) for number in given}, {int})

    def test_each_call_in_one_list(self):
        self.assertEqual(run(*EACH), EACH_ANSWER)

    def test_no_seatings_at_the_beginning(self):
        self.assertEqual(run(CHECK), [[0, 0, 0, 0, 0]])
        self.assertEqual(run(lift(1, 1)), [[-2]])

    def test_calls_behind_those_of_later_places(self):
        for later in LATER:
            given = run(later, put(1, 1, 1, 2, 3), later, put(1, 2, 1, 2, 3), later, CHECK)
            self.assertEqual(given[1::2], [[0], [0], [0, 2, 2, 1, 1]], later)

    def test_ranges_of_later_places(self):
        for place, ranges in LATER_RANGES.items():
            row = [0] if place == 16 else []
            good = [low for low, high in ranges]
            self.assertNotEqual(run([place] + good + row), [[-1]])
            self.assertNotEqual(run([place] + [high for low, high in ranges] + row), [[-1]])
            for which, (low, high) in enumerate(ranges):
                for number in beyond(low, high):
                    self.assertEqual(run([place] + good[:which] + [number] + good[which + 1:] + row), [[-1]])
        for row in [[0], [0, 1], [0, 1, 0, 0], [0, 1, 0] * 21, [0, 1, -1], [20, 1, 0], [0, HUGE, 0]]:
            self.assertEqual(run(starter(2, row)), [[-1]])

    def test_later_places_change_nothing(self):
        before = [mitchell(4, 2), put(20, 20, 98, 99, 20)]
        self.assertEqual(left_behind(*before, *LATER), left_behind(*before))

    def test_each_call_with_later_places_between(self):
        mixed = []
        for place, call in enumerate(EACH):
            mixed += [LATER[place % len(LATER)], call]
        self.assertEqual(run(*mixed)[1::2], EACH_ANSWER)

    def test_four_hundred_calls(self):
        self.assertEqual(run(*[mitchell(20, 0), CHECK] * 200), [[0, 400], [0, 0, 200, 0, 0]] * 200)

    def test_rows_that_fill_the_list(self):
        row = [0, 1, 0] * 20
        calls = [cyclic(19, row + [0] * 40)] * 155 + [cyclic(1, [0, 1, 0])]
        self.assertLessEqual(len(joined(calls)), 16000)
        self.assertEqual(run(*calls), [[-1]] * 155 + [[0, 1]])


class NothingKept(unittest.TestCase):
    def test_the_list_handed_in_stays(self):
        calls = joined(EACH + LATER)
        copy = list(calls)
        answers(calls)
        self.assertEqual(calls, copy)

    def test_nor_is_it_changed_for_a_while(self):
        self.assertEqual(answers(Locked(joined(EACH + LATER))), answers(joined(EACH + LATER)))

    def test_a_second_run_answers_the_same(self):
        calls = joined(EACH + LATER)
        first = answers(calls)
        self.assertEqual(answers(calls), first)

    def test_seatings_do_not_stay_for_the_next_list(self):
        answers(joined([mitchell(20, 0), put(1, 1, 1, 2, 3)]))
        self.assertEqual(run(CHECK, lift(1, 1)), [[0, 0, 0, 0, 0], [-2]])

    def test_what_was_given_back_is_the_callers(self):
        given = answers(CHECK)
        given.append(7)
        self.assertEqual(answers(CHECK), [5, 0, 0, 0, 0, 0])


class AgainstTheModel(unittest.TestCase):
    def number(self, low, high):
        if self.source.random() < 0.01:
            return self.source.choice([low - 1, high + 1, HUGE, -HUGE])
        return self.source.randint(low, high)

    def row(self, m):
        count = 3 * self.source.randint(0, 6) + (self.source.random() < 0.05)
        highest = m if self.source.random() < 0.9 else m + 1
        return [self.number(0, max(0, min(19, highest - (place % 3 == 2)))) for place in range(count)]

    def call(self):
        number = self.number
        place = self.source.choice([0] * 12 + [1, 1, 2, 3, 4, 4, 4, 5, 6, 6, 7, 7, 8, 8, 8])
        if place == 4:
            m = number(1, 19)
            return cyclic(m, self.row(m))
        ranges = {
            0: [(1, 3), (1, 4), (1, 8), (1, 8), (1, 4)], 1: [(1, 4), (1, 4)], 2: [], 3: [(1, 20), (0, 2)],
            5: [(2, 20)], 6: [(1, 6)], 7: [(1, 9), (1, 9)], 8: [],
        }
        return [place] + [number(low, high) for low, high in ranges[place]]

    def test_lines_by_chance(self):
        for seed in range(150):
            self.source = random.Random(seed)
            calls = [self.call() for step in range(60)]
            model = Model()
            expected = [model.answer(call) for call in calls]
            self.assertEqual(split(answers(joined(calls))), expected, seed)
            self.assertEqual(left_behind(*calls), model.rows, seed)

    def test_every_movement_by_rule(self):
        for call in [mitchell(n, kind) for n in range(0, 22) for kind in range(-1, 4)] + [robin(n) for n in range(1, 22)]:
            model = Model()
            self.assertEqual(run(call), [model.answer(call)], call)
            self.assertEqual(left_behind(call), model.rows, call)
