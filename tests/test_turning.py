"""Points 7, 11 and 12: turns, the wheels that they move, and clicks."""

import unittest
from itertools import product

from dialpack.errors import InvalidLock, InvalidState, InvalidTurn, InvalidTurns
from dialpack.locks import is_state, pushed_back, pushed_up, reach_of
from dialpack.turning import click_row, joined_turns, moved_wheels, state_trail, turned_state, way_of
from tests.support import NO_INTEGERS, NO_LISTS, PointCase
from tests.test_locks import LOCK, STATE, WRONG_LOCKS, WRONG_STATES

HUGE = 10 ** 28
GREAT = 10 ** 29 + 7
HUGE_LOCK = (GREAT, [9 * HUGE, 0, 9 * HUGE])

# Wrong turns by the index of their error.
WRONG_ITEMS = [*NO_INTEGERS, 0]
WRONG_TURNS = {
    None: [*NO_LISTS, (300,), (5, -5), [1] * 61, [0] * 61, [True] * 61, [5, -5] * 31],
    0: [[wrong] for wrong in WRONG_ITEMS] + [[wrong, 0, None] for wrong in WRONG_ITEMS] + [[0] * 60],
    2: [[5, -5, wrong, 7] for wrong in WRONG_ITEMS] + [[5, -5, wrong, wrong, True] for wrong in WRONG_ITEMS],
    59: [[*[1] * 59, wrong] for wrong in WRONG_ITEMS],
}


def unit_by_unit(lock, state, turn):
    """The state behind one turn and its clicks, as points 7 and 12 tell them, the dial going by single units."""
    dial, places = state[0], list(state[1])
    plays = lock[1]
    reaches = [sum(plays[:wheel]) for wheel in range(1, len(plays) + 1)]
    starts = list(places)
    up = turn > 0
    clicks = []
    for _ in range(abs(turn)):
        dial += 1 if up else -1
        ahead = dial
        for at, play in enumerate(plays):
            if up and ahead - places[at] > play:
                places[at] += 1
            if not up and ahead < places[at]:
                places[at] -= 1
            ahead = places[at]
        clicks += [(dial, at + 1) for at, place in enumerate(starts) if dial == (place + reaches[at] if up else place)]
    return (dial, places), clicks


def small_states():
    """All states of some small locks at some places of the dial."""
    for plays in [[0], [3], [0, 2], [2, 0], [2, 3], [1, 0, 2], [2, 1, 2]]:
        for dial in (-2, 0, 5):
            for gaps in product(*[range(play + 1) for play in plays]):
                places = [dial - sum(gaps[:wheel]) for wheel in range(1, len(plays) + 1)]
                yield (4, plays), (dial, places)


class Examples(PointCase):
    def test_states(self):
        self.run_examples("""
>>> from dialpack.turning import state_trail, turned_state
>>> lock, state = (100, [90, 90, 90]), (0, [0, 0, 0])
>>> [turned_state(lock, state, turns) for turns in [[], [300], [300, -50], [300, -100]]]
[(0, [0, 0, 0]), (300, [210, 120, 30]), (250, [210, 120, 30]), (200, [200, 120, 30])]
>>> state_trail(lock, state, [300, -100, 91])
[(300, [210, 120, 30]), (200, [200, 120, 30]), (291, [201, 120, 30])]
""", 4)

    def test_ways(self):
        self.run_examples("""
>>> from dialpack.turning import joined_turns, way_of
>>> [way_of([300, -100, 91]), way_of([]), joined_turns([300, 5, -2, -3, 7]), joined_turns([5, -5])]
[491, 0, [305, -5, 7], [5, -5]]
""", 2)

    def test_clicks(self):
        self.run_examples("""
>>> from dialpack.turning import click_row, moved_wheels
>>> lock, state = (100, [90, 90, 90]), (300, [210, 120, 30])
>>> [moved_wheels(lock, state, turn) for turn in [-50, -90, -91, -200, 10]]
[[], [], [1], [1, 2], [1, 2, 3]]
>>> [click_row(lock, state, turn) for turn in [-50, -90, -91, -200, 10]]
[[], [(210, 1)], [(210, 1)], [(210, 1), (120, 2)], []]
>>> click_row(lock, (0, [0, 0, 0]), 270)
[(90, 1), (180, 2), (270, 3)]
>>> click_row((100, [90, 0]), (90, [90, 90]), -5)
[]
>>> click_row((100, [90, 0]), (90, [0, 0]), -95)
[(0, 1), (0, 2)]
""", 7)


class WrongArguments(PointCase):
    def test_lock(self):
        for index, locks in WRONG_LOCKS.items():
            error = InvalidLock(index)
            for lock in locks:
                with self.subTest(lock=lock):
                    self.check_error(error, turned_state, lock, (0, [0]), [])
                    self.check_error(error, state_trail, lock, (0, [0]), [])
                    self.check_error(error, moved_wheels, lock, (0, [0]), 5)
                    self.check_error(error, click_row, lock, (0, [0]), 5)

    def test_state(self):
        for index, states in WRONG_STATES.items():
            error = InvalidState(index)
            for state in states:
                with self.subTest(state=state):
                    self.check_error(error, turned_state, LOCK, state, [])
                    self.check_error(error, state_trail, LOCK, state, [])
                    self.check_error(error, moved_wheels, LOCK, state, 5)
                    self.check_error(error, click_row, LOCK, state, 5)

    def test_turns(self):
        for index, rows in WRONG_TURNS.items():
            error = InvalidTurns(index)
            for turns in rows:
                with self.subTest(turns=turns):
                    self.check_error(error, turned_state, LOCK, STATE, turns)
                    self.check_error(error, state_trail, LOCK, STATE, turns)
                    self.check_error(error, way_of, turns)
                    self.check_error(error, joined_turns, turns)

    def test_turn(self):
        for turn in [*WRONG_ITEMS, [5], (5,)]:
            with self.subTest(turn=turn):
                self.check_error(InvalidTurn(""), moved_wheels, LOCK, STATE, turn)
                self.check_error(InvalidTurn(""), click_row, LOCK, STATE, turn)


class Turned(PointCase):
    def check_trail(self, lock, state, turns, trail):
        self.check(trail, state_trail, lock, state, turns)
        self.check(trail[-1] if trail else state, turned_state, lock, state, turns)

    def test_none(self):
        self.check_trail(LOCK, STATE, [], [])
        self.check_trail((2, [0]), (-7, [-7]), [], [])

    def test_document(self):
        self.check_trail(LOCK, (0, [0, 0, 0]), [300, -50, -50],
                         [(300, [210, 120, 30]), (250, [210, 120, 30]), (200, [200, 120, 30])])

    def test_just_comes_to_a_wheel(self):
        start = (0, [0, 0, 0])
        for turn, places in [
            (89, [0, 0, 0]), (90, [0, 0, 0]), (91, [1, 0, 0]), (180, [90, 0, 0]), (181, [91, 1, 0]),
            (270, [180, 90, 0]), (271, [181, 91, 1]), (-1, [-1, -1, -1]),
        ]:
            with self.subTest(turn=turn):
                self.check_trail(LOCK, start, [turn], [(turn, places)])
        for turn, places in [
            (-89, [210, 120, 30]), (-90, [210, 120, 30]), (-91, [209, 120, 30]), (-180, [120, 120, 30]),
            (-181, [119, 119, 30]), (-270, [30, 30, 30]), (-271, [29, 29, 29]), (1, [211, 121, 31]),
        ]:
            with self.subTest(turn=turn):
                self.check_trail(LOCK, STATE, [turn], [(300 + turn, places)])

    def test_plays_of_0(self):
        lock = (100, [0, 10, 0])
        self.check_trail(lock, (0, [0, 0, 0]), [10, 1, -1, -11, 5],
                         [(10, [10, 0, 0]), (11, [11, 1, 1]), (10, [10, 1, 1]), (-1, [-1, -1, -1]), (4, [4, -1, -1])])
        self.check_trail((2, [0] * 8), (5, [5] * 8), [3, -9], [(8, [8] * 8), (-1, [-1] * 8)])

    def test_several_wheels_at_one_place(self):
        self.check_trail(LOCK, (50, [0, 0, 0]), [-50, -1, 90], [(0, [0, 0, 0]), (-1, [-1, -1, -1]), (89, [-1, -1, -1])])
        self.check_trail(LOCK, (90, [90, 90, 0]), [90, -180], [(180, [90, 90, 0]), (0, [0, 0, 0])])

    def test_sixty(self):
        trail = [(at, [max(0, at - 20)]) for at in range(1, 61)]
        self.check_trail((100, [20]), (0, [0]), [1] * 60, trail)
        self.check_trail((100, [20]), (0, [0]), [1, -1] * 30, [(1, [0]), (0, [0])] * 30)

    def test_great(self):
        start = (0, [0, 0, 0])
        self.check_trail(HUGE_LOCK, start, [HUGE], [(HUGE, [0, 0, 0])])
        self.check_trail(HUGE_LOCK, start, [9 * HUGE + 1, -HUGE, 18 * HUGE, -20 * HUGE], [
            (9 * HUGE + 1, [1, 1, 0]), (8 * HUGE + 1, [1, 1, 0]), (26 * HUGE + 1, [17 * HUGE + 1, 17 * HUGE + 1, 8 * HUGE + 1]),
            (6 * HUGE + 1, [6 * HUGE + 1] * 3),
        ])
        self.check_trail((2, [1, 1]), (0, [0, 0]), [HUGE, -GREAT],
                         [(HUGE, [HUGE - 1, HUGE - 2]), (HUGE - GREAT, [HUGE - GREAT] * 2)])

    def test_unit_by_unit(self):
        for lock, state in small_states():
            for turn in [*range(-10, 0), *range(1, 11)]:
                expected, _ = unit_by_unit(lock, state, turn)
                self.assert_same(turned_state(lock, state, [turn]), expected)
                self.assertTrue(is_state(lock, expected))

    def test_trails_unit_by_unit(self):
        for lock, state in small_states():
            for turns in [[4, -3, 7, -1, -2], [-5, 9, -1, 1], [1, 1, 1, -6, 2]]:
                trail = []
                for turn in turns:
                    trail.append(unit_by_unit(lock, trail[-1] if trail else state, turn)[0])
                self.assert_same(state_trail(lock, state, turns), trail)
                self.assert_same(turned_state(lock, state, turns), trail[-1])

    def test_one_turn_is_as_many_in_its_direction(self):
        for lock, state in small_states():
            self.assert_same(turned_state(lock, state, [3, 4]), turned_state(lock, state, [7]))
            self.assert_same(turned_state(lock, state, [-1, -6]), turned_state(lock, state, [-7]))

    def test_places_nearest_to_the_old_ones(self):
        # What point 7 says to follow: from stop - reach to stop the place that is nearest to the old one.
        start = (300, [215, 200, 110])
        for turn in [-400, -101, -100, -84, -1, 1, 5, 185, 186, 400]:
            stop = 300 + turn
            places = [min(max(place, stop - reach_of(LOCK, wheel)), stop) for wheel, place in enumerate(start[1], 1)]
            self.check((stop, places), turned_state, LOCK, start, [turn])

    def test_answers_may_be_passed_on(self):
        state = turned_state(LOCK, pushed_up(LOCK, 7), [])
        self.check(turned_state(LOCK, STATE, [-91, 5]), turned_state, LOCK, turned_state(LOCK, STATE, [-91]), [5])
        self.check((0, [-83, -173, -263]), turned_state, LOCK, state, [-7])

    def test_modified_answer_has_no_effect(self):
        start = (300, [210, 120, 30])
        turned_state(LOCK, start, [])[1][0] = 5
        trail = state_trail(LOCK, start, [-10, 20])
        trail[0][1][0] = 5
        self.assert_same(trail[1], (310, [220, 130, 40]))
        self.assert_same(start, (300, [210, 120, 30]))
        self.check((300, [210, 120, 30]), turned_state, LOCK, start, [])


class Ways(PointCase):
    def test_way(self):
        for turns, way in [
            ([], 0), ([7], 7), ([-7], 7), ([7, -7], 14), ([-3, -4, 5], 12), ([1] * 60, 60), ([-1] * 60, 60),
            ([HUGE, -GREAT], HUGE + GREAT), ([10 ** 30 - 1] * 60, 60 * 10 ** 30 - 60),
        ]:
            with self.subTest(turns=turns):
                self.check(way, way_of, turns)

    def test_joined(self):
        for turns, joined in [
            ([], []), ([7], [7]), ([-7], [-7]), ([1, 2, 3], [6]), ([-1, -2, -3], [-6]), ([5, -5], [5, -5]),
            ([5, -5, 5], [5, -5, 5]), ([5, -2, 3], [5, -2, 3]), ([-1, 1, 1, -1, -1, 1], [-1, 2, -2, 1]),
            ([1] * 60, [60]), ([1, -1] * 30, [1, -1] * 30), ([1] * 30 + [-1] * 30, [30, -30]),
            ([HUGE, HUGE, -GREAT, -1], [2 * HUGE, -GREAT - 1]),
        ]:
            with self.subTest(turns=turns):
                self.check(joined, joined_turns, turns)

    def test_joined_do_the_same(self):
        for turns in product([-4, -1, 2, 5], repeat=4):
            joined = joined_turns(list(turns))
            self.assertEqual(way_of(joined), way_of(list(turns)))
            self.assertTrue(all((one > 0) != (other > 0) for one, other in zip(joined, joined[1:])))
            for state in [(5, [5, 3]), (5, [2, 2]), (5, [3, -1])]:
                lock = (10, [3, 4])
                self.assertEqual(turned_state(lock, state, joined), turned_state(lock, state, list(turns)))


class OneTurn(PointCase):
    def test_just_comes_to_a_wheel(self):
        start = (0, [0, 0, 0])
        for turn, moved, clicks in [
            (1, [], []), (89, [], []), (90, [], [(90, 1)]), (91, [1], [(90, 1)]), (179, [1], [(90, 1)]),
            (180, [1], [(90, 1), (180, 2)]), (181, [1, 2], [(90, 1), (180, 2)]), (269, [1, 2], [(90, 1), (180, 2)]),
            (270, [1, 2], [(90, 1), (180, 2), (270, 3)]), (271, [1, 2, 3], [(90, 1), (180, 2), (270, 3)]),
            (-1, [1, 2, 3], []), (-500, [1, 2, 3], []),
        ]:
            with self.subTest(turn=turn):
                self.check(moved, moved_wheels, LOCK, start, turn)
                self.check(clicks, click_row, LOCK, start, turn)

    def test_back(self):
        for turn, moved, clicks in [
            (-89, [], []), (-90, [], [(210, 1)]), (-91, [1], [(210, 1)]), (-179, [1], [(210, 1)]),
            (-180, [1], [(210, 1), (120, 2)]), (-181, [1, 2], [(210, 1), (120, 2)]),
            (-270, [1, 2], [(210, 1), (120, 2), (30, 3)]), (-271, [1, 2, 3], [(210, 1), (120, 2), (30, 3)]),
            (1, [1, 2, 3], []), (500, [1, 2, 3], []),
        ]:
            with self.subTest(turn=turn):
                self.check(moved, moved_wheels, LOCK, STATE, turn)
                self.check(clicks, click_row, LOCK, STATE, turn)

    def test_several_wheels_at_one_place(self):
        lock = (10, [3, 0, 2, 0])
        self.check([(3, 1), (3, 2), (5, 3), (5, 4)], click_row, lock, (0, [0, 0, 0, 0]), 5)
        self.check([1, 2], moved_wheels, lock, (0, [0, 0, 0, 0]), 5)
        self.check([1, 2, 3, 4], moved_wheels, lock, (0, [0, 0, 0, 0]), 6)
        self.check([(-1, 1), (-1, 2), (-1, 3), (-1, 4)], click_row, lock, (0, [-1, -1, -1, -1]), -1)
        self.check([], moved_wheels, lock, (0, [-1, -1, -1, -1]), -1)
        self.check([1, 2, 3, 4], moved_wheels, lock, (0, [-1, -1, -1, -1]), -2)

    def test_some_pushed_already(self):
        lock = (10, [3, 4, 5])
        # Wheels 1 and 2 are pushed up from the beginning; wheel 3 is met behind 2 units.
        self.check([(2, 3)], click_row, lock, (0, [-3, -7, -10]), 5)
        self.check([1, 2], moved_wheels, lock, (0, [-3, -7, -10]), 2)
        # Wheel 1 is pushed back from the beginning; wheels 2 and 3 are met at one place.
        self.check([(-4, 2), (-4, 3)], click_row, lock, (0, [0, -4, -4]), -4)
        self.check([1], moved_wheels, lock, (0, [0, -4, -4]), -4)

    def test_plays_of_0(self):
        for turn in (-1, 1):
            self.check([], click_row, (2, [0] * 8), (0, [0] * 8), turn)
            self.check(list(range(1, 9)), moved_wheels, (2, [0] * 8), (0, [0] * 8), turn)

    def test_great(self):
        start = (0, [0, 0, 0])
        first = [(9 * HUGE, 1), (9 * HUGE, 2)]
        self.check(first, click_row, HUGE_LOCK, start, 9 * HUGE)
        self.check([], click_row, HUGE_LOCK, start, 9 * HUGE - 1)
        self.check([*first, (18 * HUGE, 3)], click_row, HUGE_LOCK, start, GREAT * 2)
        self.check([], moved_wheels, HUGE_LOCK, start, 9 * HUGE)
        self.check([1, 2], moved_wheels, HUGE_LOCK, start, 9 * HUGE + 1)
        self.check([1, 2, 3], moved_wheels, HUGE_LOCK, start, GREAT * 2)
        self.check([(-GREAT, 1), (-GREAT, 2)], click_row, HUGE_LOCK, (HUGE - GREAT, [-GREAT] * 2 + [-GREAT - 1]), -HUGE)

    def test_unit_by_unit(self):
        for lock, state in small_states():
            for turn in [*range(-10, 0), *range(1, 11)]:
                (_, places), clicks = unit_by_unit(lock, state, turn)
                moved = [at + 1 for at, place in enumerate(places) if place != state[1][at]]
                self.assert_same(moved_wheels(lock, state, turn), moved)
                self.assert_same(click_row(lock, state, turn), clicks)

    def test_pushed_wheels_do_not_click(self):
        for lock in [LOCK, (2, [0]), HUGE_LOCK]:
            self.check([], click_row, lock, pushed_up(lock, -5), GREAT)
            self.check([], click_row, lock, pushed_back(lock, -5), -GREAT)


if __name__ == "__main__":
    unittest.main()
