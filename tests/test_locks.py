"""Points 5, 6, 8 and 10: locks, states, numbers and gates."""

import unittest
from itertools import product

from dialpack.errors import InvalidDial, InvalidGates, InvalidLock, InvalidNumber, InvalidState, InvalidWheel
from dialpack.locks import is_lock, is_open, is_state, numbers_of, pushed_back, pushed_up, reach_of
from tests.support import NO_INTEGERS, NO_LISTS, NO_PAIRS, PointCase

LOCK = (100, [90, 90, 90])
STATE = (300, [210, 120, 30])
GATES = [10, 20, 30]
GREAT = 10 ** 29 + 7
GREAT_LOCK = (GREAT, [10 ** 28, 0, 3 * 10 ** 29])

# Wrong locks by the index of their error.
WRONG_LOCKS = {
    None: [*NO_PAIRS, (1,), (1, [], 1), [100, [90]]],
    0: [
        *[(ring, [90]) for ring in [*NO_INTEGERS, 1, 0, -1, -100, -GREAT]],
        (True, []), (1, []), (1, (90,)), (None, None), ([90], 100),
    ],
    1: [
        *[(100, plays) for plays in [*NO_LISTS, [], [0] * 9, [90] * 10, [-1], [90, -1], [-1] * 8, [[90]], [(90,)]]],
        *[(2, [*[1] * ahead, play, *[1] * behind])
          for play in [*NO_INTEGERS, -1, -GREAT] for ahead, behind in [(0, 0), (0, 7), (3, 4), (7, 0)]],
    ],
}

# Wrong states of LOCK by the index of their error.
WRONG_STATES = {
    None: [*NO_PAIRS, [300, [210, 120, 30]], (300, 210, 120, 30), (300, [210, 120, 30], None), ([300], [210], [120])],
    0: [*[(dial, [0, 0, 0]) for dial in NO_INTEGERS], (None, None), (True, [1, 1, 1]), (False, [0, 0, 0])],
    1: [
        *[(0, places) for places in [*NO_LISTS, [], [0], [0, 0], [0, 0, 0, 0], (0, 0, 0), [[0, 0, 0]]]],
        *[(0, places) for wrong in NO_INTEGERS for places in ([wrong, 0, 0], [0, wrong, 0], [0, 0, wrong])],
        (300, [301, 300, 300]), (300, [209, 120, 30]), (300, [210, 211, 200]), (300, [210, 119, 30]),
        (300, [210, 120, 121]), (300, [210, 120, 29]), (300, [300, 300, 301]), (300, [10, 20, 30]),
        (-5, [-4, -5, -5]), (-5, [-96, -96, -96]), (-GREAT, [0, 0, 0]), (0, [-GREAT, -GREAT, -GREAT]),
        (1, [True, True, True]), (0, [False, False, False]),
    ],
}

# Wrong gates for LOCK by the index of their error.
WRONG_GATES = {
    None: [*NO_LISTS, [], [10], [10, 20], [10, 20, 30, 40], (10, 20, 30), [100, -1]],
    0: [[wrong, 20, 30] for wrong in [*NO_INTEGERS, 100, -1, GREAT, -GREAT]] + [[-1, 100, None], [100, 20, 100]],
    1: [[10, wrong, 30] for wrong in [*NO_INTEGERS, 100, -1, GREAT, -GREAT]] + [[10, -1, 100], [10, None, True]],
    2: [[10, 20, wrong] for wrong in [*NO_INTEGERS, 100, -1, GREAT, -GREAT]],
}


class Examples(PointCase):
    def test_locks_and_states(self):
        self.run_examples("""
>>> from dialpack.locks import is_lock, is_state, reach_of
>>> [is_lock(value) for value in [(100, [90, 0]), (1, [90]), (100, []), (100, [-1]), (100, (90,)), [100, [90]], (100, [0] * 9)]]
[True, False, False, False, False, False, False]
>>> lock = (100, [90, 90, 90])
>>> [reach_of(lock, wheel) for wheel in [1, 2, 3]]
[90, 180, 270]
>>> [is_state(lock, value) for value in [(300, [210, 120, 30]), (300, [210, 120, 29]), (300, [301, 300, 300]), (-5, [-5, -5, -5])]]
[True, False, False, True]
""", 5)

    def test_numbers_and_gates(self):
        self.run_examples("""
>>> from dialpack.locks import is_open, numbers_of, pushed_back, pushed_up
>>> lock = (100, [90, 90, 90])
>>> [pushed_up(lock, 300), pushed_back(lock, 250), numbers_of(lock, (300, [210, 120, 30])), numbers_of(lock, pushed_up(lock, 0))]
[(300, [210, 120, 30]), (250, [250, 250, 250]), [10, 20, 30], [10, 20, 30]]
>>> [is_open(lock, (300, [210, 120, 30]), gates, tolerance) for gates, tolerance in [([10, 20, 30], 0), ([11, 20, 29], 0), ([11, 20, 29], 1)]]
[True, False, True]
>>> [is_open((100, [90]), (0, [0]), [gate], 1) for gate in [98, 99, 0, 1, 2]]
[False, True, True, True, False]
""", 5)


class WrongArguments(PointCase):
    """The errors of the functions of locks, and the answers of is_lock and is_state."""

    def test_lock(self):
        for index, locks in WRONG_LOCKS.items():
            error = InvalidLock(index)
            for lock in locks:
                with self.subTest(lock=lock):
                    self.check(False, is_lock, lock)
                    self.check_error(error, reach_of, lock, 1)
                    self.check_error(error, is_state, lock, (0, [0]))
                    self.check_error(error, numbers_of, lock, (0, [0]))
                    self.check_error(error, pushed_up, lock, 0)
                    self.check_error(error, pushed_back, lock, 0)
                    self.check_error(error, is_open, lock, (0, [0]), [0], 0)

    def test_wheel(self):
        for wheel in [*NO_INTEGERS, 0, -1, -3, 4, GREAT, -GREAT]:
            with self.subTest(wheel=wheel):
                self.check_error(InvalidWheel(""), reach_of, LOCK, wheel)
        self.check_error(InvalidWheel(""), reach_of, (100, [90]), 2)
        self.check_error(InvalidWheel(""), reach_of, (100, [90]), True)

    def test_state(self):
        for index, states in WRONG_STATES.items():
            for state in states:
                with self.subTest(state=state):
                    self.check(False, is_state, LOCK, state)
                    self.check_error(InvalidState(index), numbers_of, LOCK, state)
                    self.check_error(InvalidState(index), is_open, LOCK, state, GATES, 0)

    def test_dial(self):
        for dial in NO_INTEGERS:
            with self.subTest(dial=dial):
                self.check_error(InvalidDial(""), pushed_up, LOCK, dial)
                self.check_error(InvalidDial(""), pushed_back, LOCK, dial)

    def test_gates(self):
        for index, rows in WRONG_GATES.items():
            for gates in rows:
                with self.subTest(gates=gates):
                    self.check_error(InvalidGates(index), is_open, LOCK, STATE, gates, 0)

    def test_tolerance(self):
        for tolerance in [*NO_INTEGERS, -1, 50, 51, 100, GREAT, -GREAT]:
            with self.subTest(tolerance=tolerance):
                self.check_error(InvalidNumber(""), is_open, LOCK, STATE, GATES, tolerance)

    def test_tolerance_by_the_ring(self):
        for ring, most in [(2, 0), (3, 1), (4, 1), (5, 2), (99, 49), (100, 49), (101, 50), (GREAT, GREAT // 2)]:
            lock, state = (ring, [0]), (0, [0])
            with self.subTest(ring=ring):
                self.check(True, is_open, lock, state, [0], most)
                self.check_error(InvalidNumber(""), is_open, lock, state, [0], most + 1)


class Locks(PointCase):
    def test_edges(self):
        for lock in [
            (2, [0]), (2, [1]), (3, [0]), (100, [90]), (100, [0] * 8), (100, [90] * 8), (100, [100]), (100, [1000]),
            (100, [0, 90, 0]), GREAT_LOCK, (2, [10 ** 29] * 8), (10 ** 30 - 1, [10 ** 30 - 1] * 8),
        ]:
            with self.subTest(lock=lock):
                self.check(True, is_lock, lock)

    def test_reach(self):
        lock = (2, [1, 0, 20, 300, 0, 4000, 50000, 600000])
        self.assertEqual([self.call(reach_of, lock, wheel) for wheel in range(1, 9)],
                         [1, 1, 21, 321, 321, 4321, 54321, 654321])
        self.check(10 ** 28, reach_of, GREAT_LOCK, 2)
        self.check(31 * 10 ** 28, reach_of, GREAT_LOCK, 3)
        self.check(0, reach_of, (2, [0]), 1)


class States(PointCase):
    def test_edges(self):
        for state in [
            (0, [0, 0, 0]), (0, [-90, -180, -270]), (0, [-90, -90, -90]), (0, [0, -90, -90]), (0, [0, 0, -90]),
            (-1000, [-1000, -1090, -1100]), (GREAT, [GREAT, GREAT - 90, GREAT - 180]), (-GREAT, [-GREAT - 1] * 3),
        ]:
            with self.subTest(state=state):
                self.check(True, is_state, LOCK, state)

    def test_all_of_small_locks(self):
        for plays in [[0], [2], [0, 1], [2, 0], [1, 2, 1]]:
            lock = (2, plays)
            for dial in (-1, 0):
                for behind in product(range(-2, 6), repeat=len(plays)):
                    places = [dial - one for one in behind]
                    gaps = [ahead - place for ahead, place in zip([dial, *places], places)]
                    fits = all(0 <= gap <= play for gap, play in zip(gaps, plays))
                    self.assertIs(is_state(lock, (dial, places)), fits, (lock, dial, places))

    def test_one_too_far(self):
        for wheel in range(3):
            for off in (1, -91):
                places = [0, 0, 0]
                places[wheel] = off
                with self.subTest(places=places):
                    self.check(False, is_state, LOCK, (0, places))

    def test_play_of_0(self):
        lock = (100, [0, 5, 0])
        self.check(True, is_state, lock, (7, [7, 2, 2]))
        self.check(False, is_state, lock, (7, [6, 2, 2]))
        self.check(False, is_state, lock, (7, [8, 8, 8]))
        self.check(False, is_state, lock, (7, [7, 2, 1]))
        self.check(False, is_state, lock, (7, [7, 2, 3]))

    def test_great_places(self):
        self.check(True, is_state, GREAT_LOCK, (10 ** 29, [9 * 10 ** 28, 9 * 10 ** 28, -21 * 10 ** 28]))
        self.check(False, is_state, GREAT_LOCK, (10 ** 29, [9 * 10 ** 28, 9 * 10 ** 28, -21 * 10 ** 28 - 1]))
        self.check(False, is_state, GREAT_LOCK, (10 ** 29, [9 * 10 ** 28 - 1, 9 * 10 ** 28 - 1, 0]))


class Numbers(PointCase):
    def test_below_0_and_whole_turns(self):
        self.check([0, 0, 0], numbers_of, LOCK, (0, [0, 0, 0]))
        self.check([0, 99, 91], numbers_of, LOCK, (100, [100, 99, 91]))
        self.check([99, 55, 0], numbers_of, LOCK, (0, [-1, -45, -100]))
        self.check([10, 20, 30], numbers_of, LOCK, STATE)

    def test_ring_of_2(self):
        self.check([1, 0, 1], numbers_of, (2, [5, 5, 5]), (0, [-1, -2, -7]))

    def test_great(self):
        self.check([10 ** 29], numbers_of, (GREAT, [0]), (-7, [-7]))
        self.check([GREAT - 1], numbers_of, (GREAT, [10 ** 29]), (0, [-1]))
        self.check([0, 0, GREAT - 10 ** 29], numbers_of, (GREAT, [0, 0, 10 ** 29]), (GREAT, [GREAT, GREAT, 7]))


class Pushed(PointCase):
    def test_places(self):
        lock = (10, [3, 0, 25])
        self.check((0, [-3, -3, -28]), pushed_up, lock, 0)
        self.check((0, [0, 0, 0]), pushed_back, lock, 0)
        self.check((-40, [-43, -43, -68]), pushed_up, lock, -40)
        self.check((-40, [-40, -40, -40]), pushed_back, lock, -40)

    def test_great(self):
        self.check((-GREAT, [-GREAT - 10 ** 28, -GREAT - 10 ** 28, -GREAT - 31 * 10 ** 28]),
                   pushed_up, GREAT_LOCK, -GREAT)
        self.check((GREAT, [GREAT] * 3), pushed_back, GREAT_LOCK, GREAT)

    def test_most_and_least_wheels(self):
        self.check((8, [7, 6, 5, 4, 3, 2, 1, 0]), pushed_up, (2, [1] * 8), 8)
        self.check((8, [8] * 8), pushed_back, (2, [1] * 8), 8)
        self.check((8, [8]), pushed_up, (2, [0]), 8)

    def test_are_states(self):
        for lock in [LOCK, GREAT_LOCK, (2, [0]), (2, [1] * 8)]:
            for dial in (-1, 0, GREAT):
                self.check(True, is_state, lock, pushed_up(lock, dial))
                self.check(True, is_state, lock, pushed_back(lock, dial))


class Open(PointCase):
    def test_tolerance_on_both_sides(self):
        for place, gate, tolerance, opens in [
            (50, 47, 3, True), (50, 53, 3, True), (50, 46, 3, False), (50, 54, 3, False),
            (0, 97, 3, True), (0, 3, 3, True), (0, 96, 3, False), (0, 4, 3, False),
            (99, 2, 3, True), (99, 96, 3, True), (99, 3, 3, False), (99, 95, 3, False),
            (-1, 2, 3, True), (-101, 2, 3, True), (-1, 3, 3, False), (399, 2, 3, True), (399, 3, 3, False),
            (50, 50, 0, True), (50, 49, 0, False), (50, 51, 0, False),
            (50, 1, 49, True), (50, 99, 49, True), (50, 0, 49, False),
        ]:
            with self.subTest(place=place, gate=gate, tolerance=tolerance):
                self.check(opens, is_open, (100, [90]), (place, [place]), [gate], tolerance)

    def test_small_rings(self):
        for ring in range(2, 8):
            for tolerance in range((ring - 1) // 2 + 1):
                for place in range(-ring, 2 * ring):
                    # Those are in the gate that a step of at most the tolerance brings to its number.
                    steps = range(-tolerance, tolerance + 1)
                    near = {(place + step) % ring for step in steps}
                    for gate in range(ring):
                        answer = is_open((ring, [0]), (place, [place]), [gate], tolerance)
                        self.assertIs(answer, gate in near, (ring, tolerance, place, gate))

    def test_each_wheel_counts(self):
        for wheel in range(3):
            for step in (-2, 2):
                gates = list(GATES)
                gates[wheel] += step
                with self.subTest(gates=gates):
                    self.check(False, is_open, LOCK, STATE, gates, 1)
                    self.check(True, is_open, LOCK, STATE, gates, 2)

    def test_dial_plays_no_part(self):
        for dial in (210, 211, 300):
            self.check(True, is_open, LOCK, (dial, [210, 120, 30]), GATES, 0)

    def test_great(self):
        lock = (GREAT, [10 ** 29])
        self.check(True, is_open, lock, (0, [-10 ** 29]), [7], 0)
        self.check(True, is_open, lock, (0, [-10 ** 29]), [10 ** 29], 14)
        self.check(False, is_open, lock, (0, [-10 ** 29]), [10 ** 29], 13)
        self.check(True, is_open, lock, (0, [0]), [GREAT // 2], GREAT // 2)
        self.check(False, is_open, lock, (0, [0]), [GREAT // 2], GREAT // 2 - 1)


if __name__ == "__main__":
    unittest.main()
