"""Point 20: the turns of least way to a combination from a state that nobody knows."""

import random
import unittest
from itertools import product

from dialpack.blind import blind_turns, blind_way, shows_blind
from dialpack.errors import Impossible, InvalidDial, InvalidGates, InvalidLock
from dialpack.locks import numbers_of, pushed_back, pushed_up, reach_of
from dialpack.shortest import least_way
from dialpack.turning import joined_turns, turned_state, way_of
from tests.support import NO_INTEGERS, NO_LISTS, PointCase, searched_ways, states_at
from tests.test_combos import dialed
from tests.test_dialing import moved_by_a_unit
from tests.test_effects import led_unit_by_unit
from tests.test_locks import LOCK, WRONG_GATES, WRONG_LOCKS
from tests.test_shortest import near_places
from tests.test_turning import GREAT, HUGE, WRONG_TURNS

GATES = [3, 50, 61]
BLIND_LOCKS = [
    (2, [0]), (5, [0]), (4, [2]), (4, [3]), (4, [4]), (6, [13]), (2, [0, 0]), (2, [1, 2]), (3, [0, 2]), (3, [7, 3]),
    (4, [0, 1]), (4, [5, 4]), (5, [3, 2]), (5, [2, 9]), (6, [3, 0]), (6, [6, 6]), (2, [0, 1, 2]), (2, [0, 0, 0]),
    (2, [1, 1, 1]), (3, [1, 0, 2]), (3, [2, 3, 1]), (3, [3, 3, 3]), (4, [1, 3, 2]), (5, [1, 2, 3]), (6, [2, 4, 1]),
]


def blind_ways(lock, dial):
    """The least way to each combination, by a search unit by unit with all states that there may be at once."""
    def moved(one, unit):
        place, rows = one
        return place + unit, frozenset(moved_by_a_unit(lock, (place, row), unit)[1] for row in rows)

    def told(one):
        numbers = {tuple(place % lock[0] for place in row) for row in one[1]}
        return numbers.pop() if len(numbers) == 1 else None

    start = (dial, frozenset(tuple(places) for _, places in states_at(lock, dial)))
    return searched_ways(start, moved, told, len(dialed(lock)))


class Examples(PointCase):
    def test_ways(self):
        self.run_examples("""
>>> from dialpack.blind import blind_way
>>> lock = (100, [90, 90, 90])
>>> [blind_way(lock, 0, [3, 50, 61]), blind_way(lock, 0, [0, 0, 0]), blind_way(lock, 50, [0, 0, 0])]
[633, 300, 290]
>>> [blind_way((100, [0]), 7, [3]), blind_way((100, [0]), 7, [7])]
[4, 0]
""", 4)

    def test_turns(self):
        self.run_examples("""
>>> from dialpack.blind import blind_turns, shows_blind
>>> lock, gates = (100, [90, 90, 90]), [3, 50, 61]
>>> sum([abs(turn) for turn in blind_turns(lock, 0, gates)])
633
>>> [shows_blind(lock, 0, gates, value) for value in [[-39, 270, -181, 143], [-39, 269, -127], [], None]]
[True, False, False, False]
""", 4)


class WrongArguments(PointCase):
    def check_all(self, error, *args):
        self.check_error(error, blind_way, *args)
        self.check_error(error, blind_turns, *args)
        self.check_error(error, shows_blind, *args, [5])
        self.check_error(error, shows_blind, *args, None)

    def test_lock(self):
        for index, locks in WRONG_LOCKS.items():
            for lock in locks:
                with self.subTest(lock=lock):
                    self.check_all(InvalidLock(index), lock, 0, [0])

    def test_dial(self):
        for dial in NO_INTEGERS:
            with self.subTest(dial=dial):
                self.check_all(InvalidDial(""), LOCK, dial, GATES)

    def test_gates(self):
        for index, rows in WRONG_GATES.items():
            for gates in rows:
                with self.subTest(gates=gates):
                    self.check_all(InvalidGates(index), LOCK, 0, gates)

    def test_impossible_where_neighbours_are_too_far_apart(self):
        for lock in BLIND_LOCKS:
            possible = dialed(lock)
            for row in product(range(lock[0]), repeat=len(lock[1])):
                if list(row) not in possible:
                    self.check_error(Impossible(""), blind_way, lock, 5, list(row))
                    self.check_error(Impossible(""), blind_turns, lock, 5, list(row))
                    self.assertIs(shows_blind(lock, 5, list(row), [100]), False)
        for gates in ([3, 50, 57], [3, 4, 4], [3, 12, 12]):
            self.check_error(Impossible(""), blind_way, LOCK, 0, gates)
            self.check_error(Impossible(""), blind_turns, LOCK, 0, gates)
            self.check(False, shows_blind, LOCK, 0, gates, [300])

    def test_impossible_stands_behind_all_others(self):
        self.check_all(InvalidGates(2), LOCK, 0, [3, 50, 100])
        self.check_all(InvalidDial(""), LOCK, None, [3, 50, 57])


class BlindWays(PointCase):
    def check_blind(self, lock, dial, gates, way):
        self.check(way, blind_way, lock, dial, gates)
        turns = self.call(blind_turns, lock, dial, gates)
        self.check(way, way_of, turns)
        self.assert_same(joined_turns(turns), turns)
        self.check(True, shows_blind, lock, dial, gates, turns)
        for state in (pushed_up(lock, dial), pushed_back(lock, dial)):
            self.assertEqual(numbers_of(lock, turned_state(lock, state, turns)), gates)

    def test_all_gates_of_small_locks(self):
        for lock in BLIND_LOCKS:
            for dial in (0, 1, -8):
                for gates, way in blind_ways(lock, dial).items():
                    turns = blind_turns(lock, dial, list(gates))
                    with self.subTest(lock=lock, dial=dial, gates=gates):
                        self.assertEqual(blind_way(lock, dial, list(gates)), way)
                        self.assertEqual(sum(abs(turn) for turn in turns), way)
                        self.assertEqual(joined_turns(turns), turns)
                        self.assertIs(shows_blind(lock, dial, list(gates), turns), True)
                        # Behind the turns all states are one.
                        behind = [led_unit_by_unit(lock, state, turns) for state in states_at(lock, dial)]
                        self.assertEqual(behind, [behind[0]] * len(behind))
                        self.assertEqual([place % lock[0] for place in behind[0][1]], list(gates))

    def test_all_plays_0(self):
        for many in (1, 2, 8):
            lock = (10, [0] * many)
            for dial in (0, 7, -3, 12):
                for number in range(10):
                    up, back = (number - dial) % 10, (dial - number) % 10
                    self.check_blind(lock, dial, [number] * many, min(up, back))
            self.check([], blind_turns, lock, 17, [7] * many)
            self.check([-3], blind_turns, lock, 17, [4] * many)
            self.check([4], blind_turns, lock, 17, [1] * many)

    def test_plays_of_whole_rings(self):
        # Though all numbers are the same a ring farther, the wheels have to be gathered.
        self.check_blind((10, [10]), 0, [0], 10)
        self.check_blind((10, [20]), 3, [3], 20)
        self.check_blind((10, [20]), 3, [4], 21)
        self.check_blind((10, [20, 10]), 3, [3, 3], 30)
        self.check(False, shows_blind, (10, [10]), 0, [0], [])
        self.check(False, shows_blind, (10, [10]), 0, [0], [5, -5])
        self.check(True, shows_blind, (10, [10]), 0, [0], [10])

    def test_each_way_is_the_least_over_the_gathered_states(self):
        # The wheels are gathered first when the dial has had a span of all plays, and all are pushed up or back then.
        rows = random.Random(20)
        for _ in range(150):
            ring = rows.choice([7, 100, HUGE, GREAT])
            lock = (ring, [rows.choice([0, ring - 1, ring, rows.randrange(2 * ring)]) for _ in range(rows.randint(1, 5))])
            dial = rows.randint(-3 * ring, 3 * ring)
            turns = [rows.choice([-1, 1]) * rows.randint(1, 3 * ring) for _ in range(5)]
            gates = numbers_of(lock, turned_state(lock, pushed_up(lock, 0), turns))
            most = reach_of(lock, len(gates))
            ways = []
            for place in [dial, *near_places(ring, gates[-1], dial)]:
                if dial - most <= place <= dial:
                    ways.append(dial - place + most + least_way(lock, pushed_up(lock, place + most), gates))
            for place in [dial - most, *near_places(ring, gates[-1], dial - most)]:
                if dial - most <= place <= dial:
                    ways.append(place + most - dial + most + least_way(lock, pushed_back(lock, place), gates))
            self.check_blind(lock, dial, gates, min(ways))

    def test_eight_wheels(self):
        lock = (10, [9] * 8)
        turns = self.call(blind_turns, lock, 5, [1, 3, 5, 7, 9, 0, 2, 4])
        self.assertLessEqual(len(turns), 9)
        self.check_blind(lock, 5, [1, 3, 5, 7, 9, 0, 2, 4], way_of(turns))
        self.check_blind((100, [90] * 8), 0, [0] * 8, 740)

    def test_dial_a_ring_farther(self):
        for dial in (0, 17, 50, 99):
            way = blind_way(LOCK, dial, GATES)
            for rings in (-7, -1, 1, HUGE):
                self.check_blind(LOCK, dial + 100 * rings, GATES, way)

    def test_great(self):
        for lock in [(5, [3, 2]), (3, [2, 3, 1]), (4, [5, 4]), (7, [0])]:
            great = (lock[0] * HUGE, [play * HUGE for play in lock[1]])
            for dial in (0, -9):
                for gates, way in blind_ways(lock, dial).items():
                    self.check_blind(great, dial * HUGE, [gate * HUGE for gate in gates], way * HUGE)

    def test_great_by_a_unit(self):
        lock = (GREAT, [9 * HUGE, 0, 9 * HUGE])
        # Straight back to 1 - 2 * GREAT the dial has a span of more than all plays, 18 * HUGE.
        self.check_blind(lock, 0, [1, 1, 1], 20 * HUGE + 13)
        self.check_blind((GREAT, [HUGE]), 5, [5], HUGE)
        self.check_blind((GREAT, [HUGE]), 5, [6], HUGE + 1)
        self.check_blind((GREAT, [HUGE]), 5, [4], HUGE + 1)

    def test_answer_is_new(self):
        self.check_answer_is_new(blind_turns, LOCK, 0, GATES)
        self.check_answer_is_new(blind_turns, (100, [0]), 7, [7])


class Shown(PointCase):
    def test_all_short_turns(self):
        amounts = [-5, -4, -3, -2, -1, 1, 2, 3, 4, 5]
        for lock in [(3, [1, 2]), (3, [3]), (2, [0, 2])]:
            states = list(states_at(lock, 1))
            for many in range(4):
                for turns in product(amounts, repeat=many):
                    behind = [led_unit_by_unit(lock, state, list(turns))[1] for state in states]
                    numbers = [[place % lock[0] for place in places] for places in behind]
                    for gates in dialed(lock):
                        sure = all(row == gates for row in numbers)
                        self.assertIs(shows_blind(lock, 1, gates, list(turns)), sure, (lock, turns, gates))

    def test_span_of_all_plays_and_one_less(self):
        for dial, turns, number, sure in [
            (0, [-270], 30, True), (0, [-269], 31, False), (1, [-270], 31, True), (1, [-269], 32, False),
            (0, [1, -270], 31, True), (0, [1, -269], 32, False), (0, [-269, -1, 1], 30, True), (0, [70, -370], 0, True),
        ]:
            with self.subTest(dial=dial, turns=turns):
                self.check(sure, shows_blind, LOCK, dial, [number] * 3, turns)
        self.check(True, shows_blind, LOCK, 0, [80, 90, 0], [270])
        self.check(False, shows_blind, LOCK, 0, [79, 89, 99], [269])
        self.check(False, shows_blind, LOCK, 0, [79, 89, 0], [269])
        self.check(True, shows_blind, LOCK, 0, [79, 89, 99], [-1, 270])

    def test_one_turn_changed(self):
        self.check(True, shows_blind, LOCK, 0, GATES, [-39, 270, -181, 143])
        for at in range(4):
            for step in (-1, 1):
                turns = [-39, 270, -181, 143]
                turns[at] += step
                self.check(False, shows_blind, LOCK, 0, GATES, turns)
        self.check(False, shows_blind, LOCK, 1, GATES, [-39, 270, -181, 143])

    def test_at_most_sixty(self):
        self.check(True, shows_blind, (100, [20]), 0, [40], [1] * 60)
        self.check(False, shows_blind, (100, [20]), 0, [41], [1] * 61)
        self.check(True, shows_blind, (100, [0]), 3, [3], [1, -1] * 30)
        self.check(False, shows_blind, (100, [0]), 3, [4], [1, -1] * 30 + [1])

    def test_values_that_are_none(self):
        for values in [NO_LISTS, *WRONG_TURNS.values()]:
            for value in values:
                with self.subTest(value=value):
                    self.check(False, shows_blind, (100, [0]), 0, [0], value)
        self.check(True, shows_blind, (100, [0]), 0, [0], [])


if __name__ == "__main__":
    unittest.main()
