"""How calls stand in the one list, and what is true of every list."""

import random
import time
import unittest

from pairrounds.movement import answers
from tests.helpers import (
    BALANCE, CHECK, CLEAR, HAND, HUGE, LIST, SIZE, at, between, beyond, cyclic, first, joined, last, left_behind, lift,
    missing, mitchell, plays, put, renumber, robin, run, split, starter, switch,
)
from tests.model import Model


class Locked(list):
    """A list that can be read alone."""

    def locked(self, *args, **kwargs):
        raise AssertionError("what is handed in was changed")

    append = extend = insert = pop = remove = clear = sort = reverse = locked
    __setitem__ = __delitem__ = __iadd__ = __imul__ = locked


EACH = [
    put(1, 1, 1, 2, 3), put(1, 2, 1, 2, 3), CHECK, lift(1, 2), switch(1), renumber(1, 9), lift(9, 9), put(1, 1, 4, 4, 1),
    mitchell(4, 1), CHECK, mitchell(3, 1), cyclic(3, [3, 0, 0, 1, 2, 2]), CHECK, cyclic(3, [0, 0, 0]), cyclic(3, [1]),
    robin(6), CHECK, robin(7), switch(20), CLEAR, CHECK,
]
EACH_ANSWER = [
    [0], [0], [0, 2, 2, 1, 1], [0], [0], [0], [-2], [-3],
    [0, 12], [0, 0, 0, 0, 0], [-4], [0, 6], [0, 0, 3, 0, 0], [-5], [-1],
    [0, 15], [0, 0, 0, 0, 5], [-4], [-2], [0], [0, 0, 0, 0, 0],
]


# Each is followed by numbers that would be read as other calls, were it taken apart wrongly.
ASKING = [
    first(3), first(HUGE), at(2, 2), at(-HUGE, 2), between(2, 8), between(2, 2), plays(8, 2), plays(0, 0), BALANCE, SIZE,
    LIST, starter(3, []), starter(3, [2, 2, 2]), starter(2, [0, 1, 0]), starter(8, [2] * 100), starter(-HUGE, [2]),
    starter(5, [HUGE] * 61), missing(2), missing(100),
]

# One call for each place, and behind the 18 some that are refused or answer otherwise.
PLACES = [
    put(1, 1, 4, 1, 5), lift(1, 1), CLEAR, mitchell(4, 0), cyclic(2, [0, 1, 0, 0, 2, 1]), robin(4), switch(1),
    renumber(1, 4), CHECK, first(2), at(1, 1), between(1, 2), plays(1, 5), BALANCE, SIZE, LIST, starter(4, [1, 3, 0]),
    missing(1),
]
MORE = [
    put(1, 1, 4, 4, 5), put(1, 1, 4, 1, 21), lift(20, 20), mitchell(3, 1), cyclic(2, [0, 0, 0]), cyclic(2, [0]), robin(3),
    switch(20), renumber(0, 1), first(5), at(100, 1), between(3, 3), plays(1, 0), starter(4, [1, 1, 0]), starter(4, [1]),
    missing(0),
]

RANGES = {
    0: [(1, 20), (1, 20), (1, 99), (1, 99), (1, 20)], 1: [(1, 20), (1, 20)], 3: [(1, 20), (0, 2)], 4: [(1, 19)],
    5: [(2, 20)], 6: [(1, 20)], 7: [(1, 99), (1, 99)], 9: [(1, 4)], 10: [(1, 99), (1, 20)], 11: [(1, 99), (1, 99)],
    12: [(1, 99), (1, 20)], 16: [(1, 19)], 17: [(1, 99)],
}


class OneList(unittest.TestCase):
    def test_what_is_given_back(self):
        given = answers(joined([put(1, 1, 1, 2, 3), mitchell(2, 0), CHECK, robin(3)]))
        self.assertEqual(given, [1, 0, 2, 0, 4, 5, 0, 0, 2, 0, 0, 1, -4])

    def test_plain_whole_numbers_in_a_plain_list(self):
        given = answers(joined(EACH))
        self.assertIs(type(given), list)
        self.assertEqual({type(number) for number in given}, {int})

    def test_each_call_in_one_list(self):
        self.assertEqual(run(*EACH), EACH_ANSWER)

    def test_no_seatings_at_the_beginning(self):
        self.assertEqual(run(CHECK), [[0, 0, 0, 0, 0]])
        self.assertEqual(run(lift(1, 1)), [[-2]])

    def test_calls_behind_those_that_ask(self):
        for asking in ASKING:
            given = run(asking, put(1, 1, 1, 2, 3), asking, put(1, 2, 1, 2, 3), asking, CHECK)
            self.assertEqual(given[1::2], [[0], [0], [0, 2, 2, 1, 1]], asking)

    def test_ranges_of_every_place(self):
        for place, ranges in RANGES.items():
            row = [0] if place in (4, 16) else []
            lowest = [low for low, high in ranges]
            self.assertNotEqual(run([place] + lowest + row), [[-1]])
            self.assertNotEqual(run([place] + [high for low, high in ranges] + row), [[-1]])
            for which, (low, high) in enumerate(ranges):
                for number in beyond(low, high):
                    call = [place] + lowest[:which] + [number] + lowest[which + 1:] + row
                    self.assertEqual(last(*HAND, call), [-1], call)
                    self.assertEqual(left_behind(*HAND, call), left_behind(*HAND), call)

    def test_calls_that_ask_change_nothing(self):
        before = [mitchell(4, 2), put(20, 20, 98, 99, 20)]
        self.assertEqual(left_behind(*before, *ASKING), left_behind(*before))

    def test_each_call_with_some_that_ask_between(self):
        mixed = []
        for place, call in enumerate(EACH):
            mixed += [ASKING[place % len(ASKING)], call]
        self.assertEqual(run(*mixed)[1::2], EACH_ANSWER)

    def test_an_answer_below_0_further_behind_is_no_refusal(self):
        self.assertEqual(answers(joined([mitchell(2, 0), BALANCE])), [2, 0, 4, 4, 0, -6, 20, 6])

    def test_four_hundred_calls(self):
        self.assertEqual(run(*[mitchell(20, 0), CHECK] * 200), [[0, 400], [0, 0, 200, 0, 0]] * 200)

    def test_rows_that_fill_the_list(self):
        row = [0, 1, 0] * 20
        calls = [cyclic(19, row + [0] * 40)] * 155 + [cyclic(1, [0, 1, 0])]
        self.assertLessEqual(len(joined(calls)), 16000)
        self.assertEqual(run(*calls), [[-1]] * 155 + [[0, 1]])


class GoodTime(unittest.TestCase):
    """Lines of 400 calls on movements of 400 seatings: some seconds at most, far below what is allowed here."""

    # Every fifth seating of the 400 anew, so that all pairs from 1 to 99 are there.
    FULL = [mitchell(20, 0)] + [
        put(1 + k // 4, 1 + 5 * (k % 4) + k // 4 % 5, 20 + k, 99 - k % 50 if 99 - k % 50 != 20 + k else 1, 1 + k % 20)
        for k in range(80)
    ]

    def ends(self, calls):
        self.assertEqual(len(calls), 400)
        self.assertLessEqual(len(joined(calls)), 16000)
        start = time.process_time()
        given = answers(joined(calls))
        self.assertLess(time.process_time() - start, 20)
        self.assertLess(len(given), 1000000)
        return split(given)

    def test_the_movement_is_full(self):
        self.assertEqual(last(*self.FULL, SIZE), [0, 99, 20, 20, 20])
        self.assertEqual(len(left_behind(*self.FULL)), 400)

    def test_each_call_that_asks_by_itself(self):
        model = Model()
        for call in self.FULL:
            model.answer(call)
        for call in [CHECK, first(2), at(99, 20), between(1, 99), plays(99, 1), BALANCE, SIZE, LIST, missing(99)]:
            rest = 400 - len(self.FULL)
            given = self.ends(self.FULL + [call] * rest)
            self.assertEqual(given[-rest:], [model.answer(call)] * rest, call)

    def test_all_in_turn(self):
        asked = [BALANCE, between(1, 50), first(3), CHECK, LIST, switch(20), renumber(99, 1), missing(1), at(1, 20), SIZE]
        given = self.ends((self.FULL + asked * 40)[:400])
        self.assertTrue(all(answer[0] == 0 for answer in given))


class NothingKept(unittest.TestCase):
    def test_the_list_handed_in_stays(self):
        calls = joined(EACH + ASKING + PLACES + MORE)
        copy = list(calls)
        answers(calls)
        self.assertEqual(calls, copy)

    def test_nor_is_it_changed_for_a_while(self):
        self.assertEqual(answers(Locked(joined(EACH + ASKING + PLACES + MORE))), answers(joined(EACH + ASKING + PLACES + MORE)))

    def test_a_second_run_answers_the_same(self):
        calls = joined(EACH + ASKING + PLACES + MORE)
        first = answers(calls)
        self.assertEqual(answers(calls), first)

    def test_seatings_do_not_stay_for_the_next_list(self):
        answers(joined([mitchell(20, 0), put(1, 1, 1, 2, 3)]))
        self.assertEqual(run(CHECK, lift(1, 1)), [[0, 0, 0, 0, 0], [-2]])

    def test_what_was_given_back_is_the_callers(self):
        given = answers(CHECK)
        given.append(7)
        self.assertEqual(answers(CHECK), [5, 0, 0, 0, 0, 0])


class AgainstTheModel(unittest.TestCase):
    RANGES = {
        0: [(1, 3), (1, 4), (1, 8), (1, 8), (1, 4)], 1: [(1, 4), (1, 4)], 2: [], 3: [(1, 8), (0, 2)], 5: [(2, 10)],
        6: [(1, 6)], 7: [(1, 9), (1, 9)], 8: [], 9: [(1, 4)], 10: [(1, 9), (1, 4)], 11: [(1, 9), (1, 9)],
        12: [(1, 9), (1, 5)], 13: [], 14: [], 15: [], 17: [(1, 9)],
    }
    CHANGING = [0] * 12 + [1, 1, 2, 3, 4, 4, 4, 5, 6, 6, 7, 7]

    def number(self, low, high):
        if self.source.random() < 0.01:
            return self.source.choice([low - 1, high + 1, HUGE, -HUGE])
        return self.source.randint(low, high)

    def row(self, m):
        count = 3 * self.source.randint(0, 6) + (self.source.random() < 0.05)
        highest = m if self.source.random() < 0.9 else m + 1
        return [self.number(0, max(0, min(19, highest - (place % 3 == 2)))) for place in range(count)]

    def call(self):
        place = self.source.choice(self.CHANGING if self.source.random() < 0.5 else range(8, 18))
        if place in (4, 16):
            m = self.number(1, self.source.choice([3, 8, 19]))
            row = self.row(m)
            return cyclic(m, row) if place == 4 else starter(m, row)
        return [place] + [self.number(low, high) for low, high in self.RANGES[place]]

    def held_against(self, calls, told):
        model = Model()
        expected = [model.answer(call) for call in calls]
        self.assertEqual(run(*calls), expected, told)
        self.assertEqual(left_behind(*calls), model.rows, told)

    def test_lines_by_chance(self):
        for seed in range(200):
            self.source = random.Random(seed)
            self.held_against([self.call() for step in range(60)], seed)

    def test_short_rows_of_starter_by_chance(self):
        self.source = random.Random(0)
        calls = []
        for step in range(399):
            m = self.source.randint(1, 19)
            row = []
            for table in range(self.source.randint(0, 4)):
                row += self.source.sample(range(m + 1), 2) + [self.source.randrange(m)]
            calls.append(starter(m, row))
        self.held_against(calls, "starter")
        self.assertEqual({tuple(answer) for answer in run(*calls)}, {(0, 0, 0), (0, 0, 1), (0, 1, 0), (0, 1, 1)})

    def test_every_call_behind_every_other(self):
        for one in PLACES + MORE:
            for other in PLACES + MORE:
                self.held_against(HAND + [one, other], (one, other))
                self.held_against([one, other], (one, other))

    def test_all_places_in_any_order(self):
        self.assertEqual([call[0] for call in PLACES], list(range(18)))
        for seed in range(60):
            calls = PLACES + MORE
            random.Random(seed).shuffle(calls)
            self.held_against(calls, seed)
            self.held_against(HAND + calls, seed)

    def test_every_movement_by_rule(self):
        asked = [first(1), first(2), first(3), first(4), at(2, 2), between(1, 2), between(1, 8), plays(2, 1), SIZE, missing(2)]
        for call in [mitchell(n, kind) for n in range(0, 22) for kind in range(-1, 4)] + [robin(n) for n in range(1, 22)]:
            self.held_against([call], call)
            if call[1] <= 8:
                self.held_against([call] + asked + [BALANCE], call)
