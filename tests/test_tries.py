"""Points 24 and 25: the gates that are left behind tries that failed, and their indexes."""

import random
import unittest
from itertools import product

from dialpack.errors import Impossible, InvalidGates, InvalidLock, InvalidNumber, InvalidTries, InvalidWheel
from dialpack.tries import is_left, left_count, left_numbers, left_rank, nth_left
from tests.support import NO_INTEGERS, NO_LISTS, PointCase
from tests.test_combos import near, stretches_of
from tests.test_locks import LOCK, WRONG_GATES, WRONG_LOCKS
from tests.test_turning import GREAT, HUGE

TRY = [3, 50, 61]
NO_TRIES = [
    *NO_LISTS, [], [3], [3, 50], [3, 50, 61, 0], (3, 50, 61), [[3, 50, 61]],
    *[row for wrong in [*NO_INTEGERS, -1, 100, GREAT, -GREAT] for row in ([wrong, 50, 61], [3, wrong, 61], [3, 50, wrong])],
]

# Wrong tries of LOCK by the index of their error.
WRONG_TRIES = {
    None: [*NO_LISTS, (TRY,), [TRY] * 13, [None] * 13],
    0: [[wrong] for wrong in NO_TRIES] + [[wrong, wrong, TRY] for wrong in NO_TRIES],
    1: [[TRY, wrong] for wrong in NO_TRIES],
    11: [[TRY] * 11 + [wrong] for wrong in NO_TRIES],
}


def gates_left(ring, many, tolerance, tries):
    """The ascending list of the gates of so many wheels that are left, each one looked at."""
    return [
        list(gates) for gates in product(range(ring), repeat=many)
        if all(any(not near(ring, number, gate, tolerance) for number, gate in zip(tried, gates)) for tried in tries)
    ]


def small_cases():
    """Locks, tolerances and tries with the list of all gates that are left."""
    rows = random.Random(24)
    for many, rings in [(1, (2, 3, 4, 5, 9)), (2, (2, 3, 4, 6, 7)), (3, (2, 3, 4, 5))]:
        for ring in rings:
            for tolerance in range((ring - 1) // 2 + 1):
                for length in (0, 1, 2, 3, 5, 12):
                    tries = [[rows.randrange(ring) for _ in range(many)] for _ in range(length)]
                    lock = (ring, [rows.randrange(2 * ring) for _ in range(many)])
                    yield lock, tolerance, tries, gates_left(ring, many, tolerance, tries)


class Examples(PointCase):
    def test_left(self):
        self.run_examples("""
>>> from dialpack.tries import is_left, left_count, left_numbers
>>> lock = (100, [90, 90])
>>> [left_count(lock, 1, tries) for tries in ([], [[5, 5]], [[5, 5], [6, 7]])]
[10000, 9991, 9984]
>>> [is_left(lock, 1, [[5, 5]], gates) for gates in ([6, 6], [7, 5], [99, 5])]
[False, True, True]
>>> [left_numbers((10, [5]), 1, [[0], [4]], 1), left_numbers(lock, 1, [[5, 5]], 2), left_numbers((3, [1, 1]), 1, [[0, 0]], 1)]
[[(2, 2), (6, 8)], [(0, 99)], []]
""", 5)

    def test_indexes(self):
        self.run_examples("""
>>> from dialpack.tries import left_rank, nth_left
>>> lock = (100, [90, 90])
>>> [nth_left(lock, 1, [[5, 5]], index) for index in (0, 403, 404, 9990)]
[[0, 0], [4, 3], [4, 7], [99, 99]]
>>> [left_rank(lock, 1, [[5, 5]], [4, 7]), [nth_left((10, [5]), 1, [[0], [4]], index) for index in range(4)]]
[404, [[2], [6], [7], [8]]]
""", 4)
        self.check_error(Impossible(""), left_rank, (100, [90, 90]), 1, [[5, 5]], [4, 5])


class WrongArguments(PointCase):
    def check_all(self, error, lock, tolerance, tries):
        self.check_error(error, left_count, lock, tolerance, tries)
        self.check_error(error, is_left, lock, tolerance, tries, [0, 0, 0])
        self.check_error(error, left_numbers, lock, tolerance, tries, 1)
        self.check_error(error, nth_left, lock, tolerance, tries, 0)
        self.check_error(error, left_rank, lock, tolerance, tries, [0, 0, 0])

    def test_lock(self):
        for index, locks in WRONG_LOCKS.items():
            for lock in locks:
                with self.subTest(lock=lock):
                    self.check_all(InvalidLock(index), lock, 0, [])

    def test_tolerance(self):
        for tolerance in [*NO_INTEGERS, -1, 50, 51, 100, GREAT, -GREAT]:
            with self.subTest(tolerance=tolerance):
                self.check_all(InvalidNumber(""), LOCK, tolerance, [TRY])
                # The tolerance stands ahead of the tries here.
                self.check_all(InvalidNumber(""), LOCK, tolerance, None)
        for ring, most in [(2, 0), (3, 1), (4, 1), (5, 2), (GREAT, GREAT // 2)]:
            self.check(ring ** 3, left_count, (ring, [0, 0, 0]), most, [])
            self.check_all(InvalidNumber(""), (ring, [0, 0, 0]), most + 1, [])

    def test_tries(self):
        for index, rows in WRONG_TRIES.items():
            for tries in rows:
                with self.subTest(tries=tries):
                    self.check_all(InvalidTries(index), LOCK, 0, tries)
        self.check(10 ** 6 - 1, left_count, LOCK, 0, [TRY] * 12)

    def test_gates(self):
        for index, rows in WRONG_GATES.items():
            for gates in rows:
                with self.subTest(gates=gates):
                    self.check_error(InvalidGates(index), is_left, LOCK, 1, [TRY], gates)
                    self.check_error(InvalidGates(index), left_rank, LOCK, 1, [TRY], gates)

    def test_wheel(self):
        for wheel in [*NO_INTEGERS, 0, -1, -3, 4, GREAT, -GREAT]:
            with self.subTest(wheel=wheel):
                self.check_error(InvalidWheel(""), left_numbers, LOCK, 1, [TRY], wheel)
        self.check_error(InvalidWheel(""), left_numbers, (2, [0] * 8), 0, [], 9)

    def test_index(self):
        for index in [*NO_INTEGERS, -1, -GREAT, 999999, 10 ** 6, GREAT, 10 ** 60]:
            with self.subTest(index=index):
                self.check_error(InvalidNumber(""), nth_left, LOCK, 0, [TRY], index)
        self.check([99, 99, 99], nth_left, LOCK, 0, [TRY], 999998)
        # Nothing is left at all.
        self.check_error(InvalidNumber(""), nth_left, (3, [5]), 1, [[0]], 0)

    def test_impossible(self):
        for gates in [[3, 50, 61], [2, 49, 60], [4, 51, 62], [4, 50, 60]]:
            self.check_error(Impossible(""), left_rank, LOCK, 1, [TRY], gates)
            self.check(False, is_left, LOCK, 1, [TRY], gates)
        for gates in [[5, 50, 61], [1, 50, 61], [3, 52, 61], [3, 50, 63]]:
            self.check(True, is_left, LOCK, 1, [TRY], gates)
            self.check(gates, nth_left, LOCK, 1, [TRY], left_rank(LOCK, 1, [TRY], gates))
        self.check_error(InvalidGates(2), left_rank, LOCK, 1, [TRY], [3, 50, 100])


class Left(PointCase):
    def test_counts(self):
        for lock, tolerance, tries, left in small_cases():
            with self.subTest(lock=lock, tolerance=tolerance, tries=tries):
                self.check(len(left), left_count, lock, tolerance, tries)

    def test_each_of_all_gates(self):
        for lock, tolerance, tries, left in small_cases():
            ring, plays = lock
            for gates in product(range(ring), repeat=len(plays)):
                told = is_left(lock, tolerance, tries, list(gates))
                self.assertIs(told, list(gates) in left, (lock, tolerance, tries, gates))

    def test_numbers_of_each_wheel(self):
        for lock, tolerance, tries, left in small_cases():
            for wheel in range(1, len(lock[1]) + 1):
                with self.subTest(lock=lock, tolerance=tolerance, tries=tries, wheel=wheel):
                    expected = stretches_of({gates[wheel - 1] for gates in left})
                    self.check(expected, left_numbers, lock, tolerance, tries, wheel)

    def test_each_index_and_each_rank(self):
        for lock, tolerance, tries, left in small_cases():
            with self.subTest(lock=lock, tolerance=tolerance, tries=tries):
                found = [nth_left(lock, tolerance, tries, index) for index in range(len(left))]
                self.assert_same(found, left)
                ranks = [left_rank(lock, tolerance, tries, gates) for gates in left]
                self.assert_same(ranks, list(range(len(left))))
                self.check_error(InvalidNumber(""), nth_left, lock, tolerance, tries, len(left))

    def test_impossible_for_all_others(self):
        for lock, tolerance, tries, left in small_cases():
            if len(tries) == 3:
                for gates in product(range(lock[0]), repeat=len(lock[1])):
                    if list(gates) not in left:
                        self.check_error(Impossible(""), left_rank, lock, tolerance, tries, list(gates))

    def test_no_tries(self):
        lock = (100, [90, 90])
        self.check(10000, left_count, lock, 49, [])
        self.check(True, is_left, lock, 49, [], [0, 0])
        self.check([(0, 99)], left_numbers, lock, 49, [], 2)
        self.check([12, 34], nth_left, lock, 49, [], 1234)
        self.check(1234, left_rank, lock, 49, [], [12, 34])

    def test_same_try_twice(self):
        lock = (100, [90, 90])
        for many in (1, 2, 12):
            self.check(9991, left_count, lock, 1, [[5, 5]] * many)
            self.check([4, 7], nth_left, lock, 1, [[5, 5]] * many, 404)

    def test_tries_that_differ_at_one_wheel(self):
        lock = (100, [90, 90, 90])
        self.check(10 ** 6 - 12, left_count, lock, 0, [[3, 50, number] for number in range(12)])
        self.check(10 ** 6 - 14 * 9, left_count, lock, 1, [[3, 50, number] for number in range(12)])
        self.check([3, 50, 12], nth_left, lock, 0, [[3, 50, number] for number in range(12)], 35000)
        # All numbers of the last wheel are tried at one number of the first one.
        tries = [[5, number] for number in range(12)]
        self.check([(0, 4), (6, 11)], left_numbers, (12, [0, 0]), 0, tries, 1)
        self.check([(0, 11)], left_numbers, (12, [0, 0]), 0, tries, 2)
        self.check([6, 0], nth_left, (12, [0, 0]), 0, tries, 60)
        self.check(60, left_rank, (12, [0, 0]), 0, tries, [6, 0])

    def test_stretches_that_touch_are_one(self):
        # At 5 and 6 gates are left for different reasons.
        tries = [[5, 0], [6, 1], [9, 2]]
        self.check([(0, 99)], left_numbers, (100, [0, 0]), 0, tries, 1)
        self.check([(0, 99)], left_numbers, (100, [0, 0]), 3, tries, 1)
        self.check([(0, 4), (8, 99)], left_numbers, (100, [0]), 1, [[6], [6]], 1)
        self.check([(2, 8)], left_numbers, (10, [0]), 1, [[0]], 1)
        self.check([(0, 7)], left_numbers, (10, [0]), 0, [[8], [9]], 1)

    def test_the_whole_ring(self):
        for many in (1, 2, 8):
            lock = (5, [9] * many)
            self.check(0, left_count, lock, 2, [[1] * many])
            self.check([], left_numbers, lock, 2, [[1] * many], many)
            self.check(False, is_left, lock, 2, [[1] * many], [4] * many)
            self.check_error(Impossible(""), left_rank, lock, 2, [[1] * many], [4] * many)
            self.check(5 ** many, left_count, lock, 2, [])
        # With the greatest tolerance of an even ring just one number is not in its gate.
        self.check(1, left_count, (6, [0]), 2, [[1]])
        self.check([4], nth_left, (6, [0]), 2, [[1]], 0)
        self.check(36 - 25, left_count, (6, [0, 0]), 2, [[1, 1]])

    def test_plays_do_not_matter(self):
        for play in (0, 5, 90, 1000):
            self.check(9984, left_count, (100, [0, play]), 1, [[5, 5], [6, 7]])
            self.check([4, 7], nth_left, (100, [0, play]), 1, [[5, 5]], 404)

    def test_answers_are_new(self):
        self.check_answer_is_new(left_numbers, (10, [5]), 1, [[0], [4]], 1)
        self.check_answer_is_new(nth_left, LOCK, 1, [TRY], 404)


class GreatOnes(PointCase):
    def test_so_many_times_as_great(self):
        # Each number of a small ring becomes a stretch of a great one; so a try takes as many times as much of it.
        self.check(GREAT ** 2 - 9, left_count, (GREAT, [0, 0]), 1, [[5, 5]])
        self.check(GREAT ** 2 - (2 * HUGE + 1) ** 2, left_count, (GREAT, [0, 0]), HUGE, [[5, GREAT - 5]])
        self.check(GREAT ** 8 - 3 ** 8, left_count, (GREAT, [0] * 8), 1, [[0] * 8])
        self.check([(HUGE + 6, GREAT - HUGE + 4)], left_numbers, (GREAT, [0]), HUGE, [[5]], 1)
        self.check([HUGE + 6], nth_left, (GREAT, [0]), HUGE, [[5]], 0)

    def test_eight_wheels_and_twelve_tries(self):
        rows = random.Random(25)
        for share in (2, 3, 5, 20, 10 ** 9):
            ring = 10 ** 28 + 7
            tolerance = (ring - 1) // (2 * share) - 1
            lock = (ring, [10 ** 28] * 8)
            tries = [[rows.randrange(ring) for _ in range(8)] for _ in range(12)]
            count = left_count(lock, tolerance, tries)
            self.assertLess(ring ** 8 - 12 * (2 * tolerance + 1) ** 8, count + 1)
            self.assertLess(count, ring ** 8 - (2 * tolerance + 1) ** 8 + 1)
            self.check_error(InvalidNumber(""), nth_left, lock, tolerance, tries, count)
            last = None
            for index in sorted([0, 1, count - 2, count - 1, *[rows.randrange(count) for _ in range(20)]]):
                gates = self.call(nth_left, lock, tolerance, tries, index)
                self.check(index, left_rank, lock, tolerance, tries, gates)
                self.assertIs(is_left(lock, tolerance, tries, gates), True)
                self.assertTrue(last is None or last <= gates)
                last = gates

    def test_count_is_that_of_the_parts(self):
        # By taking in and out: what two tries rule out is what each one does, less what both do.
        ring, tolerance = GREAT, HUGE
        one, other = [5, 7, GREAT - 1], [5 + HUGE, 7, HUGE]
        both = (HUGE + 1) * (2 * HUGE + 1) * (2 * HUGE + 1 - HUGE - 1)
        self.check(ring ** 3 - 2 * (2 * HUGE + 1) ** 3 + both, left_count, (ring, [0] * 3), tolerance, [one, other])

    def test_all_ranks_about_an_edge(self):
        lock, tolerance, tries = (GREAT, [0, 0]), HUGE, [[2 * HUGE, 3 * HUGE]]
        # Up to the number HUGE - 1 of wheel 1 all gates are left, then all but a stretch of those of wheel 2.
        first = HUGE * GREAT
        self.check([HUGE, 0], nth_left, lock, tolerance, tries, first)
        self.check([HUGE - 1, GREAT - 1], nth_left, lock, tolerance, tries, first - 1)
        self.check([HUGE, 2 * HUGE - 1], nth_left, lock, tolerance, tries, first + 2 * HUGE - 1)
        self.check([HUGE, 4 * HUGE + 1], nth_left, lock, tolerance, tries, first + 2 * HUGE)
        self.check(first + 2 * HUGE, left_rank, lock, tolerance, tries, [HUGE, 4 * HUGE + 1])


if __name__ == "__main__":
    unittest.main()
