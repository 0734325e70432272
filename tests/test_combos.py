"""Points 16 and 17: the combinations that can be dialed, their count, and their indexes."""

import unittest
from itertools import product

from dialpack.combos import can_dial, dial_count, forbidden_numbers, gates_rank, nth_gates, open_state
from dialpack.errors import Impossible, InvalidGates, InvalidLock, InvalidNumber, InvalidWheel
from dialpack.locks import is_open, is_state
from tests.support import NO_INTEGERS, PointCase
from tests.test_locks import LOCK, WRONG_GATES, WRONG_LOCKS
from tests.test_turning import GREAT, HUGE

GATES = [3, 50, 61]
# Rings with plays of 0, of ring - 2, ring - 1, and beyond.
SMALL_LOCKS = [
    (2, [0]), (5, [9]), (2, [7, 0]), (2, [0, 1]), (2, [1, 2]), (3, [0, 1]), (4, [2, 2]), (4, [0, 3]), (4, [9, 0]),
    (5, [0, 3]), (6, [3, 2]), (7, [1, 5]), (7, [1, 6]), (7, [1, 7]), (7, [1, 20]), (3, [0, 0, 1]), (3, [2, 1, 1]),
    (3, [1, 1, 2]), (4, [0, 2, 1]), (4, [5, 1, 2]), (4, [1, 3, 0]), (5, [0, 1, 3]), (2, [1, 0, 1, 0]),
    (3, [0, 1, 0, 1]), (3, [0, 1, 1, 1]),
]


def dialed(lock):
    """The ascending list of the numbers of all states: from a first wheel at each number all places behind it."""
    ring, plays = lock
    found = set()
    for first in range(ring):
        for gaps in product(*[range(play + 1) for play in plays[1:]]):
            found.add(tuple((first - sum(gaps[:wheel])) % ring for wheel in range(len(plays))))
    return sorted(list(numbers) for numbers in found)


def near(ring, number, gate, tolerance):
    return any((number + step) % ring == gate for step in range(-tolerance, tolerance + 1))


def stretches_of(numbers):
    found = []
    for number in sorted(numbers):
        if found and found[-1][1] + 1 == number:
            found[-1] = (found[-1][0], number)
        else:
            found.append((number, number))
    return found


class Examples(PointCase):
    def test_numbers_and_dialing(self):
        self.run_examples("""
>>> from dialpack.combos import can_dial, forbidden_numbers, open_state
>>> lock = (100, [90, 90, 90])
>>> [forbidden_numbers(lock, 2, 3), forbidden_numbers(lock, 3, 95), forbidden_numbers((100, [5, 99]), 2, 7)]
[[(4, 12)], [(0, 4), (96, 99)], []]
>>> [can_dial(lock, [3, 50, 61], 0)] + [can_dial(lock, [3, 50, 57], tolerance) for tolerance in (0, 1, 2)]
[True, False, False, True]
>>> open_state(lock, [3, 50, 57], 1) is None
True
""", 5)

    def test_indexes(self):
        self.run_examples("""
>>> from dialpack.combos import dial_count, gates_rank, nth_gates
>>> lock = (100, [90, 90, 90])
>>> [dial_count(lock), dial_count((10 ** 29, [0, 0, 10 ** 28]))]
[828100, 1000000000000000000000000000100000000000000000000000000000]
>>> [nth_gates(lock, index) for index in (0, 1, 91, 28626, 828099)], gates_rank(lock, [3, 50, 61])
([[0, 0, 0], [0, 0, 10], [0, 10, 0], [3, 50, 61], [99, 99, 99]], 28626)
""", 4)


class WrongArguments(PointCase):
    def test_lock(self):
        for index, locks in WRONG_LOCKS.items():
            error = InvalidLock(index)
            for lock in locks:
                with self.subTest(lock=lock):
                    self.check_error(error, forbidden_numbers, lock, 2, 0)
                    self.check_error(error, can_dial, lock, [0], 0)
                    self.check_error(error, open_state, lock, [0], 0)
                    self.check_error(error, dial_count, lock)
                    self.check_error(error, nth_gates, lock, 0)
                    self.check_error(error, gates_rank, lock, [0])

    def test_wheel(self):
        for wheel in [*NO_INTEGERS, 1, 0, -1, -2, 4, GREAT, -GREAT]:
            with self.subTest(wheel=wheel):
                self.check_error(InvalidWheel(""), forbidden_numbers, LOCK, wheel, 0)
        for wheel in (0, 1, 2):
            self.check_error(InvalidWheel(""), forbidden_numbers, (100, [90]), wheel, 0)
        self.check_error(InvalidWheel(""), forbidden_numbers, (2, [0] * 8), 9, 0)
        self.check([(1, 1)], forbidden_numbers, (2, [0] * 8), 8, 0)

    def test_number(self):
        for number in [*NO_INTEGERS, -1, 100, 101, GREAT, -GREAT]:
            with self.subTest(number=number):
                self.check_error(InvalidNumber(""), forbidden_numbers, LOCK, 2, number)
        self.check_error(InvalidNumber(""), forbidden_numbers, (2, [5, 5]), 2, 2)

    def test_gates(self):
        for index, rows in WRONG_GATES.items():
            for gates in rows:
                with self.subTest(gates=gates):
                    self.check_error(InvalidGates(index), can_dial, LOCK, gates, 0)
                    self.check_error(InvalidGates(index), open_state, LOCK, gates, 0)
                    self.check_error(InvalidGates(index), gates_rank, LOCK, gates)

    def test_tolerance(self):
        for tolerance in [*NO_INTEGERS, -1, 50, 51, 100, GREAT, -GREAT]:
            with self.subTest(tolerance=tolerance):
                self.check_error(InvalidNumber(""), can_dial, LOCK, GATES, tolerance)
                self.check_error(InvalidNumber(""), open_state, LOCK, GATES, tolerance)
        for ring, most in [(2, 0), (3, 1), (4, 1), (5, 2), (GREAT, GREAT // 2)]:
            self.check(True, can_dial, (ring, [0]), [0], most)
            self.check_error(InvalidNumber(""), can_dial, (ring, [0]), [0], most + 1)
            self.check_error(InvalidNumber(""), open_state, (ring, [0]), [0], most + 1)

    def test_index(self):
        for index in [*NO_INTEGERS, -1, 828100, 828101, GREAT, -GREAT, 10 ** 60]:
            with self.subTest(index=index):
                self.check_error(InvalidNumber(""), nth_gates, LOCK, index)
        self.check_error(InvalidNumber(""), nth_gates, (2, [0]), 2)

    def test_impossible(self):
        for gates in [
            [3, 50, 57], [3, 4, 4], [3, 12, 12], [99, 0, 0], [99, 8, 8], [3, 3, 4], [3, 50, 51], [3, 50, 59],
        ]:
            with self.subTest(gates=gates):
                self.check_error(Impossible(""), gates_rank, LOCK, gates)
                self.check(False, can_dial, LOCK, gates, 0)
        # The last gate is none at all; the other two cannot be dialed.
        self.check_error(InvalidGates(2), gates_rank, LOCK, [3, 4, 100])


class Forbidden(PointCase):
    def test_both_ends_and_round_the_ring(self):
        lock = (100, [0, 90, 97])
        for wheel, number, stretches in [
            (2, 0, [(1, 9)]), (2, 90, [(91, 99)]), (2, 91, [(0, 0), (92, 99)]), (2, 98, [(0, 7), (99, 99)]),
            (2, 99, [(0, 8)]), (2, 89, [(90, 98)]), (3, 0, [(1, 2)]), (3, 97, [(98, 99)]), (3, 98, [(0, 0), (99, 99)]),
            (3, 99, [(0, 1)]), (3, 50, [(51, 52)]),
        ]:
            with self.subTest(wheel=wheel, number=number):
                self.check(stretches, forbidden_numbers, lock, wheel, number)

    def test_plays_about_the_ring(self):
        for number in (0, 1, 50, 98, 99):
            after = (number + 1) % 100
            others = stretches_of(set(range(100)) - {number})
            self.check(others, forbidden_numbers, (100, [5, 0]), 2, number)
            self.check([(after, after)], forbidden_numbers, (100, [5, 98]), 2, number)
            for play in (99, 100, 101, 198, 199, 1000, GREAT):
                self.check([], forbidden_numbers, (100, [5, play]), 2, number)

    def test_all_of_small_rings(self):
        for ring in range(2, 8):
            for play in range(ring + 3):
                lock = (ring, [1, 0, play])
                for number in range(ring):
                    allowed = {(number - gap) % ring for gap in range(play + 1)}
                    expected = stretches_of(set(range(ring)) - allowed)
                    self.check(expected, forbidden_numbers, lock, 3, number)

    def test_are_those_of_no_state(self):
        for lock in SMALL_LOCKS:
            rows = dialed(lock)
            for wheel in range(2, len(lock[1]) + 1):
                for number in range(lock[0]):
                    seen = {row[wheel - 1] for row in rows if row[wheel - 2] == number}
                    expected = stretches_of(set(range(lock[0])) - seen)
                    self.assertEqual(forbidden_numbers(lock, wheel, number), expected)

    def test_great(self):
        lock = (GREAT, [0, GREAT - 2, GREAT - 1, HUGE])
        self.check([(0, 0)], forbidden_numbers, lock, 2, GREAT - 1)
        self.check([(GREAT - 1, GREAT - 1)], forbidden_numbers, lock, 2, GREAT - 2)
        self.check([], forbidden_numbers, lock, 3, 7)
        self.check([(HUGE + 1, GREAT - 1)], forbidden_numbers, lock, 4, HUGE)
        self.check([(0, 0), (HUGE + 2, GREAT - 1)], forbidden_numbers, lock, 4, HUGE + 1)
        self.check([(HUGE, GREAT - 2)], forbidden_numbers, lock, 4, HUGE - 1)

    def test_answer_is_new(self):
        forbidden_numbers(LOCK, 2, 3).clear()
        self.check([(4, 12)], forbidden_numbers, LOCK, 2, 3)


class Dialing(PointCase):
    def check_dialing(self, lock, gates, tolerance, can):
        self.check(can, can_dial, lock, gates, tolerance)
        state = self.call(open_state, lock, gates, tolerance)
        if not can:
            self.assertIsNone(state)
            return
        self.assertTrue(is_state(lock, state))
        self.assertTrue(is_open(lock, state, gates, tolerance))
        self.assertTrue(all(abs(place) < 10 ** 40 for place in [state[0], *state[1]]))

    def test_all_combinations_of_small_locks(self):
        for lock in SMALL_LOCKS:
            ring, plays = lock
            rows = dialed(lock)
            for gates in product(range(ring), repeat=len(plays)):
                for tolerance in range((ring - 1) // 2 + 1):
                    can = any(all(near(ring, *pair, tolerance) for pair in zip(row, gates)) for row in rows)
                    with self.subTest(lock=lock, gates=gates, tolerance=tolerance):
                        self.check_dialing(lock, list(gates), tolerance, can)

    def test_just_within_and_just_beyond(self):
        # Each wheel that is too far takes twice the tolerance.
        for gates, tolerance, can in [
            ([3, 50, 60], 0, True), ([3, 50, 59], 0, False), ([3, 50, 59], 1, True), ([3, 50, 58], 1, True),
            ([3, 50, 57], 1, False), ([3, 50, 56], 2, True), ([3, 50, 55], 2, False), ([3, 50, 55], 3, True),
            ([3, 50, 50], 0, True), ([3, 50, 51], 0, False), ([3, 50, 51], 1, True), ([3, 50, 52], 1, True),
            ([3, 50, 53], 1, False), ([0, 5, 10], 2, False), ([0, 5, 10], 3, True), ([99, 4, 9], 2, False),
            ([99, 4, 9], 3, True), ([0, 5, 5], 49, True),
        ]:
            with self.subTest(gates=gates, tolerance=tolerance):
                self.check_dialing(LOCK, gates, tolerance, can)

    def test_both_ends_of_wide_gates(self):
        # Wheel 2 is at most 10 behind wheel 1, and never ahead of it: each one may come towards the other by 10.
        for unit in (1, HUGE):
            lock = (100 * unit, [0, 10 * unit])
            for gate, step, can in [(70, 0, True), (70, 1, False), (20, 0, True), (20, -1, False), (45, 0, True)]:
                with self.subTest(unit=unit, gate=gate, step=step):
                    self.check_dialing(lock, [50 * unit, gate * unit + step], 10 * unit, can)
                    # The same round the ring.
                    self.check_dialing(lock, [0, (gate * unit + step + 50 * unit) % (100 * unit)], 10 * unit, can)

    def test_first_play_plays_no_part(self):
        for play in (0, 1, 90, GREAT):
            self.check_dialing((100, [play, 90, 90]), GATES, 0, True)
            self.check_dialing((100, [play, 90, 90]), [3, 50, 57], 1, False)
            self.check_dialing((100, [play]), [99], 0, True)
            self.check_dialing((100, [play]), [0], 49, True)

    def test_a_wheel_at_both_ends_of_its_gate(self):
        # Behind some of wheel 1's numbers wheel 2 cannot be in the middle of its gate; wheel 3 is always where it is.
        lock = (10, [0, 8, 0])
        for gates in product(range(10), repeat=3):
            for tolerance in range(5):
                can = any(
                    all(near(10, *pair, tolerance) for pair in zip([one, two, two], gates))
                    for one in range(10) for two in range(10) if two != (one + 1) % 10
                )
                self.assertIs(can_dial(lock, list(gates), tolerance), can, (gates, tolerance))

    def test_eight_wheels(self):
        lock = (100, [90, 0, 99, 98, 0, 200, 1, 50])
        self.check_dialing(lock, [5, 5, 6, 8, 8, 3, 2, 60], 0, True)
        self.check_dialing(lock, [5, 5, 6, 7, 7, 3, 2, 60], 0, False)
        self.check_dialing(lock, [5, 5, 6, 7, 7, 3, 2, 60], 1, True)
        self.check_dialing(lock, [5, 5, 6, 8, 8, 3, 1, 60], 0, False)
        self.check_dialing((2, [0] * 8), [1] * 8, 0, True)
        self.check_dialing((2, [0] * 8), [1] * 7 + [0], 0, False)
        self.check_dialing((3, [0] * 8), [0, 1, 0, 1, 0, 1, 0, 1], 1, True)

    def test_great(self):
        lock = (GREAT, [0, HUGE, 10 ** 30 - 1, 0])
        self.check_dialing(lock, [HUGE, 0, 5, 5], 0, True)
        self.check_dialing(lock, [HUGE, GREAT - 1, 5, 5], 0, False)
        self.check_dialing(lock, [HUGE, GREAT - 1, 5, 5], 1, True)
        self.check_dialing(lock, [HUGE, GREAT - 1, 5, 8], 1, False)
        self.check_dialing(lock, [HUGE, GREAT - 1, 5, 8], 2, True)
        self.check_dialing(lock, [0, 5, GREAT // 2, 0], GREAT // 2, True)
        self.check_dialing((10 ** 30 - 1, [10 ** 30 - 1] * 8), [10 ** 30 - 2, 0] * 4, 0, True)
        self.check_dialing((10 ** 30 - 1, [10 ** 29] * 8), [10 ** 30 - 2, 0] * 4, 0, False)
        self.check_dialing((10 ** 30 - 1, [10 ** 29] * 8), [10 ** 30 - 2, 0] * 4, 1, True)

    def test_answer_is_new(self):
        state = open_state(LOCK, GATES, 0)
        before = repr(state)
        state[1].clear()
        self.assertEqual(repr(open_state(LOCK, GATES, 0)), before)


class Indexes(PointCase):
    def test_all_of_small_locks(self):
        for lock in SMALL_LOCKS:
            rows = dialed(lock)
            with self.subTest(lock=lock):
                self.check(len(rows), dial_count, lock)
                for index, gates in enumerate(rows):
                    self.check(gates, nth_gates, lock, index)
                    self.check(index, gates_rank, lock, gates)
                self.check_error(InvalidNumber(""), nth_gates, lock, len(rows))
                self.check_error(InvalidNumber(""), nth_gates, lock, -1)

    def test_others_have_no_index(self):
        for lock in SMALL_LOCKS:
            ring, plays = lock
            rows = dialed(lock)
            for gates in product(range(ring), repeat=len(plays)):
                if list(gates) not in rows:
                    self.check_error(Impossible(""), gates_rank, lock, list(gates))

    def test_have_an_index_if_they_can_be_dialed(self):
        for gates, can in [
            ([3, 50, 61], True), ([3, 50, 60], True), ([3, 50, 59], False), ([0, 10, 20], True), ([0, 9, 20], False),
            ([0, 10, 19], False), ([99, 9, 0], True), ([99, 8, 0], False),
        ]:
            with self.subTest(gates=gates):
                self.check(can, can_dial, LOCK, gates, 0)
                if can:
                    self.check(gates, nth_gates, LOCK, gates_rank(LOCK, gates))
                else:
                    self.check_error(Impossible(""), gates_rank, LOCK, gates)

    def test_count(self):
        for lock, count in [
            ((2, [0]), 2), ((100, [GREAT]), 100), ((100, [0] * 8), 100), ((100, [90] * 8), 100 * 91 ** 7),
            ((100, [0, 98]), 9900), ((100, [0, 99]), 10000), ((100, [0, 100]), 10000), ((100, [5, 0, 7]), 800),
            ((10 ** 30 - 1, [10 ** 30 - 1] * 8), (10 ** 30 - 1) ** 8),
        ]:
            with self.subTest(lock=lock):
                self.check(count, dial_count, lock)
                self.check(0, gates_rank, lock, nth_gates(lock, 0))
                self.check([lock[0] - 1] * len(lock[1]), nth_gates, lock, count - 1)
                self.check(count - 1, gates_rank, lock, [lock[0] - 1] * len(lock[1]))
                self.check_error(InvalidNumber(""), nth_gates, lock, count)

    def test_great(self):
        # Behind a wheel at 0 wheel 3 can be at 0 and at the HUGE greatest numbers, behind one at 1 at 0, 1 and so on.
        lock = (GREAT, [0, 0, HUGE])
        many = HUGE + 1
        for index, gates in [
            (0, [0, 0, 0]), (1, [0, 0, GREAT - HUGE]), (HUGE, [0, 0, GREAT - 1]),
            (many, [1, 1, 0]), (many + 1, [1, 1, 1]), (many + 2, [1, 1, GREAT - HUGE + 1]),
            (HUGE * many, [HUGE, HUGE, 0]), (HUGE * many + HUGE, [HUGE, HUGE, HUGE]),
            ((HUGE + 1) * many, [HUGE + 1, HUGE + 1, 1]), ((HUGE + 2) * many - 1, [HUGE + 1, HUGE + 1, HUGE + 1]),
            (GREAT * many - many, [GREAT - 1, GREAT - 1, GREAT - many]),
            (GREAT * many - 1, [GREAT - 1, GREAT - 1, GREAT - 1]),
        ]:
            with self.subTest(index=index):
                self.check(gates, nth_gates, lock, index)
                self.check(index, gates_rank, lock, gates)
        self.check_error(InvalidNumber(""), nth_gates, lock, GREAT * many)
        self.check_error(Impossible(""), gates_rank, lock, [HUGE + 1, HUGE + 1, 0])
        self.check_error(Impossible(""), gates_rank, lock, [HUGE, HUGE, HUGE + 1])

    def test_great_indexes_of_eight_wheels(self):
        lock = (GREAT, [0, HUGE, GREAT, GREAT - 2, 9 * HUGE, 0, GREAT - 1, 3])
        count = dial_count(lock)
        step = count // 97
        rows = [nth_gates(lock, index) for index in range(0, count, step)]
        self.assertEqual(rows, sorted(rows))
        for index, gates in zip(range(0, count, step), rows):
            self.check(index, gates_rank, lock, gates)
            self.check(True, can_dial, lock, gates, 0)

    def test_answer_is_new(self):
        nth_gates(LOCK, 28626).clear()
        self.check([3, 50, 61], nth_gates, LOCK, 28626)


if __name__ == "__main__":
    unittest.main()
