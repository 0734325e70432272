"""Points 21 and 22, and the opening lines of Part 9: a hand that is off at each stop."""

import unittest
from itertools import product

from dialpack.errors import Impossible, InvalidGates, InvalidLock, InvalidNumber, InvalidState, InvalidTurns
from dialpack.hands import greatest_hand, hand_spans, off_list, shows_off, sure_open
from dialpack.locks import is_open, numbers_of, pushed_back, pushed_up
from dialpack.turning import turned_state
from tests.support import NO_INTEGERS, NO_LISTS, PointCase, states_at
from tests.test_dialing import moved_by_a_unit
from tests.test_locks import LOCK, STATE, WRONG_GATES, WRONG_LOCKS, WRONG_STATES
from tests.test_turning import GREAT, HUGE, WRONG_TURNS

START, TURNS, GATES = (0, [0, 0, 0]), [331, -181, 143], [3, 50, 61]
WRONG_TOLERANCES = [*NO_INTEGERS, -1, 50, 51, 100, GREAT, -GREAT]
WRONG_HANDS = [*NO_INTEGERS, -1, -2, -GREAT]

HAND_LOCKS = [(5, [0]), (6, [2]), (3, [7]), (7, [3, 2]), (4, [0, 2]), (9, [2, 0]), (8, [9, 1]), (6, [1, 2, 1])]
HAND_TURNS = [
    [], [1], [-1], [3], [-7], [9, -4], [-1, 1], [2, 3], [-5, -1], [1, -1, 1], [6, -3, 2], [-8, 5, -2], [2, -1, -1],
    [9, -6, 4, -2],
]


def led_past_stops(lock, state, stops):
    """The state behind a dial that goes unit by unit from stop to stop."""
    at = (state[0], tuple(state[1]))
    for stop in stops:
        while at[0] != stop:
            at = moved_by_a_unit(lock, at, 1 if stop > at[0] else -1)
    return at[0], list(at[1])


def states_by_offs(lock, state, turns, hand):
    """The state behind the turns for each list of offs."""
    stops = [state[0] + sum(turns[:many]) for many in range(1, len(turns) + 1)]
    for offs in product(range(-hand, hand + 1), repeat=len(turns)):
        yield list(offs), led_past_stops(lock, state, [stop + off for stop, off in zip(stops, offs)])


def small_hands():
    """Locks, states, turns and hands, with the states for all lists of offs."""
    for lock in HAND_LOCKS:
        states = list(states_at(lock, 1))
        for state in [states[0], states[len(states) // 2], states[-1]]:
            for turns in HAND_TURNS:
                for hand in (0, 1, 2) if len(turns) < 4 else (0, 1):
                    yield lock, state, turns, hand, list(states_by_offs(lock, state, turns, hand))


def some_gates(lock, rows):
    """Gates at which the state behind exact turns is, or is nearly, and the greatest and some other tolerances."""
    ring = lock[0]
    numbers = numbers_of(lock, rows[len(rows) // 2][1])
    for step in (0, 1, -2):
        for tolerance in sorted({0, 1, 2, (ring - 1) // 2}):
            if tolerance <= (ring - 1) // 2:
                yield [(number + step) % ring for number in numbers], tolerance
    yield [*numbers[:-1], (numbers[-1] + 1) % ring], 0


class Examples(PointCase):
    def test_hands(self):
        self.run_examples("""
>>> from dialpack.hands import greatest_hand, hand_spans, sure_open
>>> lock, state, turns, gates = (100, [90, 90, 90]), (0, [0, 0, 0]), [331, -181, 143], [3, 50, 61]
>>> hand_spans(lock, state, turns, 2)
[(201, 205), (148, 152), (59, 63)]
>>> [sure_open(lock, state, turns, 2, gates, tolerance) for tolerance in (1, 2)]
[False, True]
>>> [greatest_hand(lock, state, turns, gates, tolerance) for tolerance in (0, 1, 2)], greatest_hand(lock, state, [], [0, 0, 0], 0)
([0, 1, 2], None)
""", 5)

    def test_offs(self):
        self.run_examples("""
>>> from dialpack.hands import off_list, shows_off
>>> lock, state, turns, gates = (100, [90, 90, 90]), (0, [0, 0, 0]), [331, -181, 143], [3, 50, 61]
>>> some = [[2, 0, 0], [1, 1, 1], [3, 0, 0], [2, 0], [0, 2, 0], [0, -2, 0]]
>>> [shows_off(lock, state, turns, 2, gates, 1, value) for value in some]
[True, False, False, False, False, True]
>>> off_list(lock, state, turns, 2, gates, 2) is None
True
""", 5)


class WrongArguments(PointCase):
    def check_hands(self, error, lock, state, turns, hand, gates, tolerance):
        self.check_error(error, sure_open, lock, state, turns, hand, gates, tolerance)
        self.check_error(error, off_list, lock, state, turns, hand, gates, tolerance)
        for value in (None, [], [0]):
            self.check_error(error, shows_off, lock, state, turns, hand, gates, tolerance, value)

    def check_all(self, error, lock, state, turns, gates, tolerance):
        self.check_hands(error, lock, state, turns, 0, gates, tolerance)
        self.check_error(error, greatest_hand, lock, state, turns, gates, tolerance)

    def test_lock(self):
        for index, locks in WRONG_LOCKS.items():
            for lock in locks:
                with self.subTest(lock=lock):
                    self.check_error(InvalidLock(index), hand_spans, lock, (0, [0]), [5], 0)
                    self.check_all(InvalidLock(index), lock, (0, [0]), [5], [5], 0)

    def test_state(self):
        for index, states in WRONG_STATES.items():
            for state in states:
                with self.subTest(state=state):
                    self.check_error(InvalidState(index), hand_spans, LOCK, state, [5], 0)
                    self.check_all(InvalidState(index), LOCK, state, [5], GATES, 0)

    def test_turns(self):
        for index, rows in WRONG_TURNS.items():
            for turns in rows:
                with self.subTest(turns=turns):
                    self.check_error(InvalidTurns(index), hand_spans, LOCK, START, turns, 0)
                    self.check_all(InvalidTurns(index), LOCK, START, turns, GATES, 0)

    def test_hand(self):
        for hand in WRONG_HANDS:
            with self.subTest(hand=hand):
                self.check_error(InvalidNumber(""), hand_spans, LOCK, START, TURNS, hand)
                self.check_hands(InvalidNumber(""), LOCK, START, TURNS, hand, GATES, 0)
                self.check_hands(InvalidNumber(""), LOCK, START, TURNS, hand, [100], 0)

    def test_gates(self):
        for index, rows in WRONG_GATES.items():
            for gates in rows:
                with self.subTest(gates=gates):
                    self.check_all(InvalidGates(index), LOCK, START, TURNS, gates, 0)

    def test_tolerance(self):
        for tolerance in WRONG_TOLERANCES:
            with self.subTest(tolerance=tolerance):
                self.check_all(InvalidNumber(""), LOCK, START, TURNS, GATES, tolerance)
        for ring, most in [(2, 0), (3, 1), (4, 1), (5, 2), (GREAT, GREAT // 2)]:
            self.check(True, sure_open, (ring, [0]), (0, [0]), [], 5, [0], most)
            self.check_all(InvalidNumber(""), (ring, [0]), (0, [0]), [], [0], most + 1)

    def test_impossible(self):
        for gates, tolerance in [([4, 50, 61], 0), ([3, 50, 60], 0), ([3, 50, 57], 3), ([5, 52, 59], 1), ([3, 0, 61], 49)]:
            with self.subTest(gates=gates):
                self.check_error(Impossible(""), greatest_hand, LOCK, START, TURNS, gates, tolerance)
                # To these functions it is nothing wrong.
                self.check(False, sure_open, LOCK, START, TURNS, 0, gates, tolerance)
                self.check([0, 0, 0], off_list, LOCK, START, TURNS, 0, gates, tolerance)
        self.check_error(Impossible(""), greatest_hand, LOCK, START, [], [0, 0, 1], 0)

    def test_impossible_stands_behind_all_others(self):
        self.check_error(InvalidNumber(""), greatest_hand, LOCK, START, TURNS, [4, 50, 61], 50)
        self.check_error(InvalidGates(2), greatest_hand, LOCK, START, TURNS, [4, 50, 100], 0)


class Spans(PointCase):
    def test_all_offs_of_small_locks(self):
        for lock, state, turns, hand, rows in small_hands():
            places = [{behind[1][at] for _, behind in rows} for at in range(len(lock[1]))]
            with self.subTest(lock=lock, state=state, turns=turns, hand=hand):
                spans = hand_spans(lock, state, turns, hand)
                self.assertEqual(spans, [(min(row), max(row)) for row in places])
                # All places between are met, too.
                self.assertEqual([len(row) for row in places], [high - low + 1 for low, high in spans])

    def test_hand_0_and_no_turns(self):
        self.check([(203, 203), (150, 150), (61, 61)], hand_spans, LOCK, START, TURNS, 0)
        for hand in (0, 1, GREAT):
            self.check([(210, 210), (120, 120), (30, 30)], hand_spans, LOCK, STATE, [], hand)

    def test_hand_greater_than_the_turns(self):
        # The dial may even go the other way than the turn says.
        self.check([(-4, 0), (-4, 0), (-4, 0)], hand_spans, LOCK, START, [1], 5)
        self.check([(-4, 6)], hand_spans, (100, [0]), (0, [0]), [1], 5)
        self.check([(-6, 2)], hand_spans, (100, [2]), (0, [0]), [-1], 5)
        self.check([(-4, 5)], hand_spans, (100, [1]), (0, [0]), [1], 5)

    def test_a_wheel_that_is_not_met(self):
        self.check([(213, 217), (123, 127), (33, 37)], hand_spans, LOCK, STATE, [5], 2)
        self.check([(210, 210), (120, 120), (30, 30)], hand_spans, LOCK, STATE, [-50], 40)
        self.check([(209, 211), (120, 121), (30, 31)], hand_spans, LOCK, STATE, [-45], 46)

    def test_sixty(self):
        self.check([(35, 45)], hand_spans, (100, [20]), (0, [0]), [1] * 60, 5)
        self.check([(-5, 0)], hand_spans, (100, [20]), (0, [0]), [1, -1] * 30, 5)

    def test_great(self):
        lock = (GREAT, [9 * HUGE, 0, 9 * HUGE])
        self.check([(5 * HUGE, 7 * HUGE)] * 2 + [(0, 0)], hand_spans, lock, START, [15 * HUGE], HUGE)
        self.check([(6 * HUGE - 1, 6 * HUGE + 1)] * 2 + [(0, 0)], hand_spans, lock, START, [15 * HUGE], 1)


class Sure(PointCase):
    def test_all_offs_of_small_locks(self):
        for lock, state, turns, hand, rows in small_hands():
            for gates, tolerance in some_gates(lock, rows):
                shut = [offs for offs, behind in rows if not is_open(lock, behind, gates, tolerance)]
                with self.subTest(lock=lock, state=state, turns=turns, hand=hand, gates=gates, tolerance=tolerance):
                    self.assertIs(sure_open(lock, state, turns, hand, gates, tolerance), not shut)
                    offs = off_list(lock, state, turns, hand, gates, tolerance)
                    if shut:
                        self.assertIn(offs, shut)
                        self.assertIs(shows_off(lock, state, turns, hand, gates, tolerance, offs), True)
                    else:
                        self.assertIsNone(offs)

    def test_shows_just_those_with_which_the_door_stays_shut(self):
        for lock, state, turns, hand, rows in small_hands():
            if len(turns) < 4:
                for gates, tolerance in list(some_gates(lock, rows))[:3]:
                    for offs, behind in rows:
                        shut = not is_open(lock, behind, gates, tolerance)
                        self.assertIs(shows_off(lock, state, turns, hand, gates, tolerance, offs), shut)

    def test_greatest_hand_is_just_sure(self):
        for lock, state, turns, hand, rows in small_hands():
            for gates, tolerance in some_gates(lock, rows):
                if hand or not is_open(lock, rows[0][1], gates, tolerance):
                    continue
                greatest = greatest_hand(lock, state, turns, gates, tolerance)
                with self.subTest(lock=lock, state=state, turns=turns, gates=gates, tolerance=tolerance):
                    if not turns or 2 * tolerance == lock[0] - 1:
                        self.assertIsNone(greatest)
                    else:
                        self.assertIs(sure_open(lock, state, turns, greatest, gates, tolerance), True)
                        self.assertIs(sure_open(lock, state, turns, greatest + 1, gates, tolerance), False)
                        offs = off_list(lock, state, turns, greatest + 1, gates, tolerance)
                        self.assertIs(shows_off(lock, state, turns, greatest + 1, gates, tolerance, offs), True)

    def test_no_turns(self):
        for hand in (0, 1, GREAT):
            self.check(True, sure_open, LOCK, START, [], hand, [0, 0, 0], 0)
            self.check(False, sure_open, LOCK, START, [], hand, [0, 0, 1], 0)
            self.check(None, off_list, LOCK, START, [], hand, [0, 0, 0], 0)
            self.check([], off_list, LOCK, START, [], hand, [0, 0, 1], 0)
            self.check(True, shows_off, LOCK, START, [], hand, [0, 0, 1], 0, [])
            self.check(False, shows_off, LOCK, START, [], hand, [0, 0, 0], 0, [])
            self.check(False, shows_off, LOCK, START, [], hand, [0, 0, 1], 0, [0])
        self.check(None, greatest_hand, LOCK, START, [], [0, 0, 0], 0)

    def test_a_wheel_that_the_hand_cannot_reach(self):
        # The wheel is left standing at 210, whatever the hand, until the dial reaches it, at 210 or at 300.
        lock, state = (100, [90]), (300, [210])
        self.check(40, greatest_hand, lock, state, [-50], [10], 0)
        self.check(43, greatest_hand, lock, state, [-50], [10], 3)
        self.check(40, greatest_hand, lock, state, [-40], [10], 0)
        self.check(30, greatest_hand, lock, state, [-60], [10], 0)

    def test_the_whole_ring(self):
        for hand in (0, 7, GREAT):
            self.check(True, sure_open, (5, [3, 4]), (0, [0, 0]), [9, -4], hand, [1, 3], 2)
            self.check(None, off_list, (5, [3, 4]), (0, [0, 0]), [9, -4], hand, [1, 3], 2)
        self.check(None, greatest_hand, (5, [3, 4]), (0, [0, 0]), [9, -4], [1, 3], 2)
        self.check(None, greatest_hand, (GREAT, [3]), (0, [0]), [9], [1], GREAT // 2)
        # At just one number the door stays shut.
        self.check(2, greatest_hand, (6, [0]), (0, [0]), [4], [4], 2)
        self.check(0, greatest_hand, (6, [0]), (0, [0]), [4], [2], 2)
        self.check(0, greatest_hand, (2, [0]), (0, [0]), [4], [0], 0)

    def test_both_ends_open_but_not_all_between(self):
        # Off by 5 either way the wheel is in its gate again, a ring farther.
        lock, state = (10, [0]), (0, [0])
        self.check(False, sure_open, lock, state, [7], 5, [2], 0)
        offs = self.call(off_list, lock, state, [7], 5, [2], 0)
        self.check(True, shows_off, lock, state, [7], 5, [2], 0, offs)
        self.check(False, shows_off, lock, state, [7], 5, [2], 0, [5])
        self.check(False, shows_off, lock, state, [7], 5, [2], 0, [-5])

    def test_all_gates_tolerances_and_hands_of_a_ring(self):
        lock, state = (12, [3]), (0, [-1])
        stop = 20
        for hand in range(16):
            low, high = stop - hand - 3, stop + hand - 3
            self.check([(max(low, -1), high)], hand_spans, lock, state, [stop], hand)
            for gate in range(12):
                for tolerance in range(6):
                    near = {(gate + step) % 12 for step in range(-tolerance, tolerance + 1)}
                    sure = all(place % 12 in near for place in range(low, high + 1))
                    offs = off_list(lock, state, [stop], hand, [gate], tolerance)
                    self.assertIs(sure_open(lock, state, [stop], hand, [gate], tolerance), sure)
                    self.assertIs(offs is None, sure)
                    if not sure:
                        self.assertTrue(-hand <= offs[0] <= hand and (stop + offs[0] - 3) % 12 not in near)

    def test_sixty(self):
        turns = [1] * 60
        self.check(5, greatest_hand, (100, [20]), (0, [0]), turns, [40], 5)
        self.check([-6] * 60, off_list, (100, [20]), (0, [0]), turns, 6, [40], 5)
        self.check(False, shows_off, (100, [20]), (0, [0]), turns, 6, [40], 5, [0] * 60)
        self.check(True, shows_off, (100, [20]), (0, [0]), turns, 6, [40], 5, [0] * 59 + [6])
        self.check(False, shows_off, (100, [20]), (0, [0]), turns, 6, [40], 5, [0] * 59 + [6, 0])

    def test_great(self):
        lock = (100 * HUGE, [90 * HUGE] * 3)
        turns, gates = [turn * HUGE for turn in TURNS], [gate * HUGE for gate in GATES]
        for tolerance in (0, 1, 7, HUGE, 2 * HUGE + 1):
            self.check(tolerance, greatest_hand, lock, START, turns, gates, tolerance)
            self.check(True, sure_open, lock, START, turns, tolerance, gates, tolerance)
            self.check(False, sure_open, lock, START, turns, tolerance + 1, gates, tolerance)
            offs = self.call(off_list, lock, START, turns, tolerance + 1, gates, tolerance)
            self.check(True, shows_off, lock, START, turns, tolerance + 1, gates, tolerance, offs)
        for hand in (5 * HUGE, 49 * HUGE, 50 * HUGE, 101 * HUGE, 10 ** 30 - 1):
            offs = self.call(off_list, lock, START, turns, hand, gates, HUGE)
            self.check(True, shows_off, lock, START, turns, hand, gates, HUGE, offs)
        # The wheel stands in the middle of its play; the stop 1 is nearer to its upper end.
        self.check(45 * HUGE + 6, greatest_hand, (100 * HUGE, [90 * HUGE]), (0, [-45 * HUGE]), [1, -1], [55 * HUGE], 7)

    def test_eight_wheels(self):
        lock = (10, [2] * 8)
        for state in (pushed_up(lock, 0), pushed_back(lock, 0)):
            behind = turned_state(lock, state, [25, -17, 9])
            self.check(1, greatest_hand, lock, state, [25, -17, 9], numbers_of(lock, behind), 1)
            self.check(4, greatest_hand, lock, state, [25, -17, 9], numbers_of(lock, behind), 4)

    def test_answer_is_new(self):
        self.check_answer_is_new(hand_spans, LOCK, START, TURNS, 2)
        self.check_answer_is_new(off_list, LOCK, START, TURNS, 2, GATES, 1)
        self.check_answer_is_new(off_list, LOCK, START, [], 2, GATES, 1)


class ShownOffs(PointCase):
    def test_values_that_are_none(self):
        wrong = [
            *NO_LISTS, [], [0], [0, 0], [0, 0, 0, 0], (2, 0, 0), [3, 0, 0], [2, 0, -3], [[2, 0, 0]], [GREAT, 0, 0],
            [-GREAT, 0, 0],
            *[[2, value, 0] for value in NO_INTEGERS], *[[2, 0, value] for value in NO_INTEGERS],
        ]
        for value in wrong:
            with self.subTest(value=value):
                self.check(False, shows_off, LOCK, START, TURNS, 2, GATES, 1, value)
        for value in ([2, 0, 0], [2, -2, 2], [-2, 0, 0], [0, -2, 0], [0, 0, 2], [0, 0, -2]):
            self.check(True, shows_off, LOCK, START, TURNS, 2, GATES, 1, value)

    def test_hand_0(self):
        self.check(True, shows_off, LOCK, START, TURNS, 0, [3, 50, 60], 0, [0, 0, 0])
        self.check(False, shows_off, LOCK, START, TURNS, 0, [3, 50, 61], 0, [0, 0, 0])
        self.check(False, shows_off, LOCK, START, TURNS, 0, [3, 50, 60], 0, [1, 0, 0])


if __name__ == "__main__":
    unittest.main()
