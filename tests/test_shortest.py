"""Point 19: the turns of least way from a state to a combination."""

import random
import unittest
from itertools import product

from dialpack.dialing import goal_way
from dialpack.errors import Impossible, InvalidGates, InvalidLock, InvalidState
from dialpack.locks import numbers_of, pushed_back, pushed_up
from dialpack.shortest import least_turns, least_way, shows_dialing
from dialpack.turning import joined_turns, turned_state, way_of
from tests.support import NO_LISTS, PointCase, searched_ways, states_at
from tests.test_combos import dialed
from tests.test_dialing import moved_by_a_unit
from tests.test_effects import led_unit_by_unit
from tests.test_locks import LOCK, STATE, WRONG_GATES, WRONG_LOCKS, WRONG_STATES
from tests.test_turning import GREAT, HUGE, WRONG_TURNS

START = (0, [0, 0, 0])
GATES = [3, 50, 61]
# Plays of 0, of less than a ring, of just a ring less one, of a ring and of more.
DIALED_LOCKS = [
    (2, [0]), (5, [0]), (4, [2]), (6, [13]), (2, [0, 0]), (2, [1, 2]), (3, [0, 2]), (3, [7, 3]), (4, [0, 1]), (4, [5, 4]),
    (5, [3, 2]), (5, [2, 9]), (6, [5, 6]), (6, [3, 0]), (2, [0, 1, 2]), (2, [3, 0, 1]), (2, [1, 1, 1]), (3, [1, 0, 2]),
    (3, [2, 3, 1]), (3, [0, 4, 2]), (4, [1, 3, 2]), (4, [2, 0, 5]), (5, [1, 2, 3]), (6, [2, 4, 1]),
]


def ways_from(lock, state):
    """The least way to each combination, by a search unit by unit through the states."""
    ring = lock[0]
    return searched_ways(
        (state[0], tuple(state[1])), lambda one, unit: moved_by_a_unit(lock, one, unit),
        lambda one: tuple(place % ring for place in one[1]), len(dialed(lock)),
    )


def near_places(ring, gate, place):
    """The places with a number that are at most two rings from a place."""
    return [there for there in range(gate + (place // ring - 3) * ring, place + 2 * ring, ring)
            if abs(there - place) <= 2 * ring]


def goals_near(lock, state, gates):
    """States with these numbers, among them those that a least way can lead to."""
    ring, plays = lock
    rows = [[place] for place in near_places(ring, gates[-1], state[1][-1])]
    for play, gate in reversed(list(zip(plays[1:], gates))):
        rows = [
            [place, *places] for places in rows for place in near_places(ring, gate, places[0])
            if 0 <= place - places[0] <= play
        ]
    for places in rows:
        for dial in sorted({places[0], places[0] + plays[0], state[0]}):
            if 0 <= dial - places[0] <= plays[0]:
                yield dial, places


class Examples(PointCase):
    def test_ways(self):
        self.run_examples("""
>>> from dialpack.shortest import least_way
>>> lock = (100, [90, 90, 90])
>>> [least_way(lock, (0, [0, 0, 0]), [3, 50, 61]), least_way(lock, (300, [210, 120, 30]), [10, 20, 30])]
[435, 0]
""", 3)
        self.check_error(Impossible(""), least_way, LOCK, START, [3, 50, 57])

    def test_turns(self):
        self.run_examples("""
>>> from dialpack.shortest import least_turns, shows_dialing
>>> lock, state, gates = (100, [90, 90, 90]), (0, [0, 0, 0]), [3, 50, 61]
>>> sum([abs(turn) for turn in least_turns(lock, state, gates)])
435
>>> some = [[-39, 269, -127], [331, -181, 143], [-39, 269], [331, -181, 143, 0], "-39"]
>>> [shows_dialing(lock, state, gates, value) for value in some]
[True, True, False, False, False]
""", 5)


class WrongArguments(PointCase):
    def check_all(self, error, *args):
        self.check_error(error, least_way, *args)
        self.check_error(error, least_turns, *args)
        self.check_error(error, shows_dialing, *args, [5])
        self.check_error(error, shows_dialing, *args, None)

    def test_lock(self):
        for index, locks in WRONG_LOCKS.items():
            for lock in locks:
                with self.subTest(lock=lock):
                    self.check_all(InvalidLock(index), lock, (0, [0]), [0])

    def test_state(self):
        for index, states in WRONG_STATES.items():
            for state in states:
                with self.subTest(state=state):
                    self.check_all(InvalidState(index), LOCK, state, GATES)

    def test_gates(self):
        for index, rows in WRONG_GATES.items():
            for gates in rows:
                with self.subTest(gates=gates):
                    self.check_all(InvalidGates(index), LOCK, START, gates)

    def test_impossible_where_neighbours_are_too_far_apart(self):
        for lock in DIALED_LOCKS:
            ring, plays = lock
            state = pushed_back(lock, 0)
            possible = dialed(lock)
            for row in product(range(ring), repeat=len(plays)):
                gates = list(row)
                if gates not in possible:
                    self.check_error(Impossible(""), least_way, lock, state, gates)
                    self.check_error(Impossible(""), least_turns, lock, state, gates)
                    self.assertIs(shows_dialing(lock, state, gates, [1]), False)
                else:
                    self.assertEqual(numbers_of(lock, turned_state(lock, state, least_turns(lock, state, gates))), gates)
        self.check_error(Impossible(""), least_way, LOCK, START, [3, 4, 4])
        self.check_error(Impossible(""), least_way, LOCK, START, [3, 12, 12])
        self.check_error(Impossible(""), least_way, (GREAT, [0, 5]), (0, [0, 0]), [4, GREAT - 2])

    def test_impossible_stands_behind_all_others(self):
        self.check_all(InvalidGates(2), LOCK, START, [3, 50, 100])
        self.check_all(InvalidState(1), LOCK, (0, [0, 0, 1]), [3, 50, 57])


class LeastWays(PointCase):
    def check_least(self, lock, state, gates, way):
        self.check(way, least_way, lock, state, gates)
        turns = self.call(least_turns, lock, state, gates)
        self.check(way, way_of, turns)
        self.assert_same(joined_turns(turns), turns)
        self.check(True, shows_dialing, lock, state, gates, turns)
        self.assertEqual(numbers_of(lock, turned_state(lock, state, turns)), gates)

    def test_all_states_and_gates_of_small_locks(self):
        for lock in DIALED_LOCKS:
            for state in [*states_at(lock, 0), *list(states_at(lock, -7))[:3]]:
                for gates, way in ways_from(lock, state).items():
                    turns = least_turns(lock, state, list(gates))
                    with self.subTest(lock=lock, state=state, gates=gates):
                        self.assertEqual(least_way(lock, state, list(gates)), way)
                        self.assertEqual(sum(abs(turn) for turn in turns), way)
                        self.assertEqual(joined_turns(turns), turns)
                        behind = led_unit_by_unit(lock, state, turns)
                        self.assertEqual([place % lock[0] for place in behind[1]], list(gates))
                        self.assertIs(shows_dialing(lock, state, list(gates), turns), True)

    def test_a_state_that_has_them_already(self):
        for lock, state in [
            (LOCK, STATE), (LOCK, START), (LOCK, (300, [211, 190, 130])), ((2, [0] * 8), (5, [5] * 8)),
            ((GREAT, [HUGE, GREAT]), (-HUGE, [-HUGE - 1, -GREAT])),
        ]:
            self.check_least(lock, state, numbers_of(lock, state), 0)
            self.check([], least_turns, lock, state, numbers_of(lock, state))

    def test_last_wheels_stay(self):
        # Wheel 1 alone: back to 95, or up to 101 with the dial at 191.
        state = (150, [100, 60, 20])
        self.check([-55], least_turns, LOCK, state, [95, 60, 20])
        self.check([41], least_turns, LOCK, state, [1, 60, 20])
        # Wheel 2 at 61 is ahead of wheel 1 at 151, which goes back to 100; at 59 it is behind wheel 1 at 59.
        self.check_least(LOCK, state, [0, 61, 20], 91 + 141)
        self.check_least(LOCK, state, [0, 59, 20], 91 + 131)
        # Wheel 3 at 19 first takes all back.
        self.check_least(LOCK, state, [0, 60, 20], 0)
        self.check_least(LOCK, state, [19, 19, 19], 131)

    def test_only_where_the_wheel_behind_allows_it(self):
        # Wheel 1 goes up to 90 as long as wheel 2 at 0 may be so far behind it; -10 is nearer, but takes wheel 2 along.
        self.check_least((100, [50, 90]), (0, [0, 0]), [90, 0], 140)
        self.check_error(Impossible(""), least_way, (100, [50, 90]), (0, [0, 0]), [95, 0])
        self.check_least((100, [50, 95]), (0, [0, 0]), [95, 0], 145)

    def test_plays_of_rings(self):
        # Wheel 1 goes to the next place with its number, though it could be at others before wheel 2.
        lock = (100, [0, 250])
        self.check([-20], least_turns, lock, (150, [150, 0]), [30, 0])
        self.check([20], least_turns, lock, (150, [150, 0]), [70, 0])
        self.check([-30], least_turns, lock, (230, [230, 0]), [0, 0])
        self.check([-60], least_turns, lock, (230, [230, 0]), [70, 0])
        self.check([30], least_turns, lock, (20, [20, 0]), [50, 0])

    def test_each_way_is_the_least_to_a_state(self):
        rows = random.Random(19)
        for _ in range(150):
            ring = rows.choice([7, 100, HUGE, GREAT])
            lock = (ring, [rows.choice([0, ring - 1, ring, rows.randrange(2 * ring)]) for _ in range(rows.randint(1, 4))])
            state = turned_state(lock, pushed_up(lock, 0), [rows.choice([-1, 1]) * rows.randint(1, 3 * ring) for _ in range(5)])
            other = turned_state(lock, state, [rows.choice([-1, 1]) * rows.randint(1, 3 * ring) for _ in range(5)])
            gates = numbers_of(lock, other)
            # Some wheels at the end may be in their gates already.
            many = rows.randint(0, len(gates) - 1)
            gates = gates[:many] + numbers_of(lock, state)[many:] if rows.random() < 0.5 else gates
            goals = list(goals_near(lock, state, gates))
            if goals:
                self.check_least(lock, state, gates, min(goal_way(lock, state, goal) for goal in goals))
            else:
                self.check_error(Impossible(""), least_way, lock, state, gates)

    def test_eight_wheels(self):
        lock = (10, [9] * 8)
        gates = [1, 3, 5, 7, 9, 0, 2, 4]
        turns = self.call(least_turns, lock, pushed_back(lock, 0), gates)
        self.check_least(lock, pushed_back(lock, 0), gates, way_of(turns))
        self.assertLessEqual(len(turns), 8)
        self.check_least((2, [0] * 8), (4, [4] * 8), [1] * 8, 1)
        self.check_error(Impossible(""), least_way, (2, [0] * 8), (4, [4] * 8), [1] * 7 + [0])

    def test_a_ring_farther_is_the_same(self):
        for gates in [[3, 50, 61], [10, 20, 30], [99, 99, 99]]:
            way = least_way(LOCK, STATE, gates)
            for rings in (-7, 1, HUGE):
                state = (300 + 100 * rings, [place + 100 * rings for place in STATE[1]])
                self.check_least(LOCK, state, gates, way)

    def test_great(self):
        # With all numbers so many times as great the way is so many times as long.
        for lock in [(5, [3, 2]), (3, [2, 3, 1]), (4, [5, 4])]:
            great = (lock[0] * HUGE, [play * HUGE for play in lock[1]])
            for state in list(states_at(lock, 0))[::2]:
                start = (0, [place * HUGE for place in state[1]])
                for gates, way in ways_from(lock, state).items():
                    self.check_least(great, start, [gate * HUGE for gate in gates], way * HUGE)

    def test_great_by_a_unit(self):
        lock = (GREAT, [9 * HUGE, 0, 9 * HUGE])
        start = (0, [0, 0, 0])
        self.check_least(lock, start, [1, 1, 1], GREAT - 1)
        self.check_least(lock, start, [GREAT - 1] * 3, 1)
        self.check_least(lock, start, [1, 1, 0], 9 * HUGE + 1)
        self.check_least(lock, start, [0, 0, GREAT - 1], 1 + 9 * HUGE + 1)

    def test_answer_is_new(self):
        self.check_answer_is_new(least_turns, LOCK, START, GATES)
        self.check_answer_is_new(least_turns, LOCK, START, [0, 0, 0])


class Shown(PointCase):
    def test_all_short_turns(self):
        lock, state = (3, [1, 2]), (0, [0, -1])
        amounts = [-4, -3, -2, -1, 1, 2, 3, 4]
        for gates in ([0, 1], [1, 0], [2, 2], [1, 2], [0, 2]):
            for many in range(4):
                for turns in product(amounts, repeat=many):
                    numbers = [place % 3 for place in led_unit_by_unit(lock, state, list(turns))[1]]
                    self.assertIs(shows_dialing(lock, state, gates, list(turns)), numbers == gates)

    def test_one_turn_changed(self):
        self.check(True, shows_dialing, LOCK, START, GATES, [-39, 269, -127])
        for at in range(3):
            for step in (-1, 1, 100):
                turns = [-39, 269, -127]
                turns[at] += step
                self.check(False, shows_dialing, LOCK, START, GATES, turns)

    def test_any_way(self):
        self.check(True, shows_dialing, LOCK, START, [0, 0, 0], [5, -5])
        self.check(True, shows_dialing, LOCK, START, [0, 0, 0], [])
        self.check(True, shows_dialing, LOCK, START, [0, 0, 0], [-100])
        self.check(False, shows_dialing, LOCK, START, [0, 0, 0], [-99])
        self.check(True, shows_dialing, LOCK, START, GATES, [-20, -19, 200, 69, -100, -27])
        self.check(True, shows_dialing, LOCK, START, GATES, [-HUGE * 100 - 39, 269, -127])

    def test_at_most_sixty(self):
        self.check(True, shows_dialing, (100, [20]), (0, [0]), [40], [1] * 60)
        self.check(False, shows_dialing, (100, [20]), (0, [0]), [41], [1] * 61)
        self.check(True, shows_dialing, LOCK, START, [0, 0, 0], [1, -1] * 30)
        self.check(False, shows_dialing, LOCK, START, [0, 0, 0], [1, -1] * 30 + [1])

    def test_values_that_are_none(self):
        for values in [NO_LISTS, *WRONG_TURNS.values()]:
            for value in values:
                with self.subTest(value=value):
                    self.check(False, shows_dialing, LOCK, START, [0, 0, 0], value)

    def test_gates_that_cannot_be_dialed(self):
        for value in ([], [5], [-39, 269, -127], None):
            self.check(False, shows_dialing, LOCK, START, [3, 50, 57], value)


if __name__ == "__main__":
    unittest.main()
