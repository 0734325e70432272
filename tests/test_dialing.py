"""Point 18: the turns of least way from one state to another one."""

import unittest

from dialpack.dialing import goal_turns, goal_way
from dialpack.errors import InvalidLock, InvalidState
from dialpack.locks import is_state, pushed_back, pushed_up
from dialpack.turning import joined_turns, turned_state, way_of
from tests.support import PointCase, states_at
from tests.test_locks import LOCK, STATE, WRONG_LOCKS, WRONG_STATES
from tests.test_turning import HUGE

SMALL_LOCKS = [(4, [0]), (4, [3]), (2, [0, 2]), (4, [2, 0]), (3, [2, 1]), (4, [1, 3]), (4, [1, 0, 2]), (5, [1, 2, 1])]


def moved_by_a_unit(lock, state, step):
    """The state behind a single unit, as point 7 tells it: each wheel whose play is used up is pushed."""
    ahead = state[0] + step
    places = []
    for play, place in zip(lock[1], state[1]):
        if ahead - place > play or ahead < place:
            place += step
        places.append(place)
        ahead = place
    return state[0] + step, tuple(places)


def least_dialings(lock, state, most):
    """For each state within a way the least way to it, and of those with this way all that have the fewest turns."""
    start = (state[0], tuple(state[1]))
    found = {start: (0, [[]])}
    # By the state and the direction of the last unit: all lists of turns with the fewest turns.
    row = {(start, 0): [[]]}
    seen = set(row)
    for way in range(1, most + 1):
        behind = {}
        for (place, last), lists in row.items():
            for step in (-1, 1):
                led = (moved_by_a_unit(lock, place, step), step)
                if led not in seen:
                    behind.setdefault(led, []).extend(
                        [*turns[:-1], turns[-1] + step] if last == step else [*turns, step] for turns in lists
                    )
        row = {led: [turns for turns in lists if len(turns) == min(map(len, lists))] for led, lists in behind.items()}
        seen.update(row)
        for led in sorted({led for led, _ in row}):
            if led not in found:
                lists = row.get((led, -1), []) + row.get((led, 1), [])
                found[led] = way, [turns for turns in lists if len(turns) == min(map(len, lists))]
    return found


class Examples(PointCase):
    def test_goals(self):
        self.run_examples("""
>>> from dialpack.dialing import goal_turns, goal_way
>>> lock, state = (100, [90, 90, 90]), (0, [0, 0, 0])
>>> goals = [(293, [203, 150, 61]), (50, [0, 0, 0]), (-10, [-10, -10, -10]), (0, [0, 0, 0])]
>>> [goal_turns(lock, state, goal) for goal in goals]
[[331, -181, 143], [50], [-10], []]
>>> [goal_way(lock, state, goal) for goal in goals]
[655, 50, 10, 0]
>>> goal_turns(lock, (300, [210, 120, 30]), (280, [200, 115, 30]))
[-185, 175, -10]
""", 6)


class WrongArguments(PointCase):
    def test_lock(self):
        for index, locks in WRONG_LOCKS.items():
            for lock in locks:
                with self.subTest(lock=lock):
                    self.check_error(InvalidLock(index), goal_turns, lock, (0, [0]), (0, [0]))
                    self.check_error(InvalidLock(index), goal_way, lock, (0, [0]), (0, [0]))

    def test_states(self):
        for index, states in WRONG_STATES.items():
            error = InvalidState(index)
            for state in states:
                with self.subTest(state=state):
                    for pair in ((state, STATE), (STATE, state), (state, state)):
                        self.check_error(error, goal_turns, LOCK, *pair)
                        self.check_error(error, goal_way, LOCK, *pair)

    def test_state_stands_ahead_of_goal(self):
        for function in (goal_turns, goal_way):
            self.check_error(InvalidState(0), function, LOCK, (None, [0, 0, 0]), (0, [0, 0, 1]))
            self.check_error(InvalidState(1), function, LOCK, (0, [0, 0, 1]), (None, [0, 0, 0]))
            self.check_error(InvalidState(None), function, LOCK, None, (0, [0, 0, 1]))


class Goals(PointCase):
    def check_goal(self, lock, state, goal, turns):
        self.check(turns, goal_turns, lock, state, goal)
        self.check(sum(abs(turn) for turn in turns), goal_way, lock, state, goal)
        self.assertEqual(turned_state(lock, state, turns), goal)

    def test_pairs_of_small_locks(self):
        for lock in SMALL_LOCKS:
            goals = [goal for dial in range(-4, 6) for goal in states_at(lock, dial)]
            for state in states_at(lock, 1):
                found = least_dialings(lock, state, 25)
                for goal in goals:
                    way, lists = found[goal[0], tuple(goal[1])]
                    with self.subTest(lock=lock, state=state, goal=goal):
                        self.assertEqual([goal_turns(lock, state, goal)], lists)
                        self.assertEqual(goal_way(lock, state, goal), way)

    def test_same_state(self):
        for lock in [*SMALL_LOCKS, (2, [0] * 8)]:
            for dial in (0, -7):
                for state in states_at(lock, dial):
                    self.check_goal(lock, state, (dial, list(state[1])), [])
        self.check_goal(LOCK, STATE, STATE, [])

    def test_dial_alone(self):
        for dial in range(210, 301):
            self.check_goal(LOCK, STATE, (dial, [210, 120, 30]), [dial - 300] if dial < 300 else [])
        self.check_goal(LOCK, (250, [210, 120, 30]), (251, [210, 120, 30]), [1])

    def test_one_wheel(self):
        state = (250, [200, 150, 100])
        for goal, turns in [
            # Wheel 1 is pushed back by the dial, or up with the dial ahead by its play.
            ((250, [199, 150, 100]), [-51, 51]), ((250, [160, 150, 100]), [-90, 90]), ((250, [201, 150, 100]), [41, -41]),
            ((250, [240, 150, 100]), [80, -80]),
            # Wheel 2 cannot be pushed without wheel 1, which is set after it.
            ((250, [200, 149, 100]), [-101, 141, -40]), ((250, [200, 151, 100]), [81, -131, 50]),
            # Wheel 3 cannot be pushed without both.
            ((250, [200, 150, 99]), [-151, 231, -130, 50]), ((250, [200, 150, 101]), [121, -221, 140, -40]),
        ]:
            with self.subTest(goal=goal):
                self.check_goal(LOCK, state, goal, turns)

    def test_pushed_states(self):
        for dial in (-1000, -1, 1, 269, 270, 271, 1000):
            for goal in (pushed_up(LOCK, dial), pushed_back(LOCK, dial)):
                for state in (pushed_up(LOCK, 0), pushed_back(LOCK, 0)):
                    turns = goal_turns(LOCK, state, goal)
                    self.check_goal(LOCK, state, goal, turns)
        self.check_goal(LOCK, pushed_back(LOCK, 0), pushed_back(LOCK, -7), [-7])
        self.check_goal(LOCK, pushed_back(LOCK, 0), pushed_back(LOCK, 7), [277, -270])
        self.check_goal(LOCK, pushed_back(LOCK, 0), pushed_up(LOCK, 270), [270])
        self.check_goal(LOCK, pushed_back(LOCK, 0), pushed_up(LOCK, 269), [-1, 270])
        self.check_goal(LOCK, pushed_up(LOCK, 0), pushed_up(LOCK, 7), [7])
        self.check_goal(LOCK, pushed_up(LOCK, 0), pushed_up(LOCK, -7), [-277, 270])

    def test_plays_of_0(self):
        self.check_goal((2, [0] * 8), (5, [5] * 8), (-5, [-5] * 8), [-10])
        self.check_goal((9, [0, 4, 0]), (5, [5, 3, 3]), (3, [3, 1, 1]), [-4, 2])
        self.check_goal((9, [0, 4, 0]), (5, [5, 3, 3]), (7, [7, 4, 4]), [3, -1])

    def test_eight_wheels(self):
        lock = (10, [2] * 8)
        state = pushed_back(lock, 0)
        goal = (1, [0, -1, -2, -3, -4, -5, -6, -7])
        self.check_goal(lock, state, goal, [-7, 15, -13, 11, -9, 7, -5, 3, -1])
        for other in (pushed_up(lock, 3), pushed_back(lock, -3), goal):
            turns = goal_turns(lock, other, state)
            self.check_goal(lock, other, state, turns)
            self.assertEqual(joined_turns(turns), turns)

    def test_way_is_that_of_the_turns(self):
        for state in states_at((5, [2, 1, 3]), 0):
            for goal in states_at((5, [2, 1, 3]), 4):
                turns = goal_turns((5, [2, 1, 3]), state, goal)
                self.assertEqual(goal_way((5, [2, 1, 3]), state, goal), way_of(turns))
                self.assertEqual(joined_turns(turns), turns)

    def test_great(self):
        # With all numbers so many times as great the dial goes so many times as far.
        lock = (5, [1, 2, 1])
        great = (5 * HUGE, [HUGE, 2 * HUGE, HUGE])
        for state in states_at(lock, 0):
            for dial in (-3, 0, 1, 5):
                for goal in states_at(lock, dial):
                    turns = [turn * HUGE for turn in goal_turns(lock, state, goal)]
                    ahead = (0, [place * HUGE for place in state[1]])
                    behind = (dial * HUGE, [place * HUGE for place in goal[1]])
                    self.assertEqual(goal_turns(great, ahead, behind), turns)
                    self.assertEqual(goal_way(great, ahead, behind), way_of(turns))

    def test_great_by_a_unit(self):
        lock = (10 ** 29, [9 * HUGE, 0, 9 * HUGE])
        state = (0, [0, 0, 0])
        self.check_goal(lock, state, (HUGE, [0, 0, 0]), [HUGE])
        self.check_goal(lock, state, (-HUGE, [-HUGE] * 3), [-HUGE])
        self.check_goal(lock, state, (0, [0, 0, -1]), [-1, 9 * HUGE + 1, -9 * HUGE])
        self.check_goal(lock, state, (1, [1, 1, 1]), [18 * HUGE + 1, -18 * HUGE])
        self.check_goal(lock, state, (9 * HUGE + 1, [1, 1, 0]), [9 * HUGE + 1])

    def test_answer_is_new(self):
        goal_turns(LOCK, STATE, (280, [200, 115, 30])).clear()
        self.check([-185, 175, -10], goal_turns, LOCK, STATE, (280, [200, 115, 30]))

    def test_answers_may_be_passed_on(self):
        goal = turned_state(LOCK, STATE, [-91, 5])
        self.assertTrue(is_state(LOCK, goal))
        self.check_goal(LOCK, STATE, goal, [-91, 5])
        self.check_goal(LOCK, goal, STATE, [86])


if __name__ == "__main__":
    unittest.main()
