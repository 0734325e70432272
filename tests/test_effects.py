"""Point 13: what turns do to all states, and the states that tell two lists of turns apart."""

import unittest

from dialpack.effects import effect_of, same_effect, shows_telling, telling_state
from dialpack.errors import InvalidLock, InvalidTurns
from dialpack.locks import pushed_back, pushed_up
from dialpack.turning import turned_state
from tests.support import NO_PAIRS, PointCase, states_at
from tests.test_locks import LOCK, WRONG_LOCKS, WRONG_STATES
from tests.test_turning import GREAT, HUGE, HUGE_LOCK, WRONG_TURNS, unit_by_unit

SMALL_LOCKS = [(4, [0]), (4, [3]), (2, [0, 2]), (4, [2, 0]), (3, [2, 3]), (4, [1, 0, 2]), (5, [1, 2, 1])]
SOME_TURNS = [
    [], [1], [-1], [2], [5], [-5], [1, -1], [-1, 1], [2, -2], [3, -1], [-3, 5], [4, -2], [-1, 3, -2], [1, 1, -1, -1],
    [9, -7], [-7, 9], [9, -9, 2], [2, -9, 9], [-2, 4, -4, 4], [3, -3, 1, -1], [7, -4, 2, -1, 1, -5],
]


def led_unit_by_unit(lock, state, turns):
    for turn in turns:
        state, _ = unit_by_unit(lock, state, turn)
    return state


class Examples(PointCase):
    def test_effects(self):
        self.run_examples("""
>>> from dialpack.effects import effect_of
>>> lock = (100, [90, 90, 90])
>>> [effect_of(lock, turns) for turns in ([], [100], [300, -150])]
[(0, [(-90, 0), (-180, 0), (-270, 0)]), (100, [(10, 10), (-80, 0), (-170, 0)]), (150, [(150, 150), (120, 120), (30, 30)])]
""", 3)

    def test_telling(self):
        self.run_examples("""
>>> from dialpack.effects import same_effect, shows_telling
>>> lock = (100, [90, 90, 90])
>>> [same_effect(lock, [300, -150], other) for other in ([-20, 320, -150], [400, -250], [300, -140])]
[True, False, False]
>>> some = [(0, [0, 0, 0]), (0, [-90, -180, -270]), (5, [5, 5, 5]), (0, [0, -50, -50])]
>>> [shows_telling(lock, [100], [-20, 120], value) for value in some]
[True, False, False, False]
""", 5)


class WrongArguments(PointCase):
    def test_lock(self):
        for index, locks in WRONG_LOCKS.items():
            error = InvalidLock(index)
            for lock in locks:
                with self.subTest(lock=lock):
                    self.check_error(error, effect_of, lock, [])
                    self.check_error(error, same_effect, lock, [], [1])
                    self.check_error(error, telling_state, lock, [], [1])
                    self.check_error(error, shows_telling, lock, [], [1], (0, [0]))

    def test_turns(self):
        for index, rows in WRONG_TURNS.items():
            error = InvalidTurns(index)
            for turns in rows:
                with self.subTest(turns=turns):
                    self.check_error(error, effect_of, LOCK, turns)
                    for pair in ((turns, [5]), ([5], turns), (turns, [0]), (turns, None)):
                        # The first list is checked first, and this value is wrong in any place.
                        self.check_error(error, same_effect, LOCK, *pair)
                        self.check_error(error, telling_state, LOCK, *pair)
                        self.check_error(error, shows_telling, LOCK, *pair, (0, [0, 0, 0]))

    def test_second_turns_are_checked_even_if_nothing_else_is_to_do(self):
        for value in (None, (1, [1, 1, 1]), (0, [0, 0, 0])):
            self.check_error(InvalidTurns(1), shows_telling, LOCK, [5], [5, 0], value)


class Effects(PointCase):
    def test_none(self):
        self.check((0, [(-90, 0), (-180, 0), (-270, 0)]), effect_of, LOCK, [])
        self.check((0, [(0, 0)] * 8), effect_of, (2, [0] * 8), [])

    def test_each_wheel_just_met(self):
        for turn, rows in [
            (1, [(-89, 0), (-179, 0), (-269, 0)]), (-1, [(-90, -1), (-180, -1), (-270, -1)]),
            (89, [(-1, 0), (-91, 0), (-181, 0)]), (90, [(0, 0), (-90, 0), (-180, 0)]),
            (91, [(1, 1), (-89, 0), (-179, 0)]), (-91, [(-91, -91), (-180, -91), (-270, -91)]),
            (270, [(180, 180), (90, 90), (0, 0)]), (271, [(181, 181), (91, 91), (1, 1)]),
        ]:
            with self.subTest(turn=turn):
                self.check((turn, rows), effect_of, LOCK, [turn])

    def test_plays_of_0(self):
        self.check((3, [(3, 3), (-2, 0), (-2, 0)]), effect_of, (10, [0, 5, 0]), [3])
        self.check((-4, [(-4, -4)] * 8), effect_of, (2, [0] * 8), [3, -7])

    def test_sixty(self):
        self.check((60, [(40, 40)]), effect_of, (100, [20]), [1] * 60)
        self.check((0, [(-19, 0)]), effect_of, (100, [20]), [1, -1] * 30)
        self.check((0, [(-20, -1)]), effect_of, (100, [20]), [-1, 1] * 30)

    def test_great(self):
        self.check((HUGE, [(-8 * HUGE, 0), (-8 * HUGE, 0), (-17 * HUGE, 0)]), effect_of, HUGE_LOCK, [HUGE])
        self.check((HUGE - GREAT, [(HUGE - GREAT, HUGE - GREAT)] * 2 + [(-17 * HUGE, HUGE - GREAT)]),
                   effect_of, HUGE_LOCK, [HUGE, -GREAT])
        self.check((0, [(0, 0)]), effect_of, (2, [10 ** 30 - 1]), [10 ** 30 - 1, 1 - 10 ** 30])

    def test_are_the_places_from_both_ends(self):
        for lock in [*SMALL_LOCKS, LOCK]:
            for turns in SOME_TURNS:
                least = led_unit_by_unit(lock, pushed_up(lock, 0), turns)
                greatest = led_unit_by_unit(lock, pushed_back(lock, 0), turns)
                self.check((sum(turns), list(zip(least[1], greatest[1]))), effect_of, lock, turns)

    def test_tells_all_states(self):
        for lock in SMALL_LOCKS:
            for turns in SOME_TURNS:
                shift, rows = effect_of(lock, turns)
                for dial in (0, -3):
                    for state in states_at(lock, dial):
                        places = [dial + min(max(place - dial, least), greatest)
                                  for place, (least, greatest) in zip(state[1], rows)]
                        self.assertEqual(led_unit_by_unit(lock, state, turns), (dial + shift, places))


class Telling(PointCase):
    def check_told(self, lock, one, other, told):
        """That just these of all states with the dial at 0 tell."""
        answer = self.call(telling_state, lock, one, other)
        self.check(not told, same_effect, lock, one, other)
        self.assertIn(answer, told or [None])
        for state in states_at(lock, 0):
            self.assertIs(shows_telling(lock, one, other, state), state in told)

    def test_all_of_small_locks(self):
        for lock in SMALL_LOCKS:
            states = list(states_at(lock, 0))
            led = [[led_unit_by_unit(lock, state, turns) for state in states] for turns in SOME_TURNS]
            for one, ones in zip(SOME_TURNS, led):
                for other, others in zip(SOME_TURNS, led):
                    told = [state for state, a, b in zip(states, ones, others) if a != b]
                    with self.subTest(lock=lock, one=one, other=other):
                        self.check_told(lock, one, other, told)

    def test_one_state_only(self):
        lock = (100, [90])
        self.check_told(lock, [], [1, -1], [(0, [-90])])
        self.check_told(lock, [-1, 1], [], [(0, [0])])
        self.check_told(lock, [200, -90], [200, -91, 1], list(states_at(lock, 0)))
        self.check_told((100, [0, 0, 40]), [], [-1, 1], [(0, [0, 0, 0])])
        self.check_told((100, [0, 0, 40]), [5, -5], [4, -4], [(0, [0, 0, place]) for place in range(-40, -35)])

    def test_none_tells(self):
        self.check_told((100, [5]), [7], [3, 4], [])
        self.check_told((100, [5]), [-7, 3], [4, -1, -10, 3], [])
        self.check_told((2, [0, 0]), [5], [-5, 10], [])
        self.check_told((100, [5]), [], [], [])

    def test_sum_alone_tells(self):
        self.check_told((100, [0]), [], [1], [(0, [0])])
        self.check_told((100, [5]), [200, -3], [200, -2], list(states_at((100, [5]), 0)))

    def test_sixty(self):
        self.check_told((100, [5]), [1] * 60, [60], [])
        self.check_told((100, [5]), [1, -1] * 30, [1, -1], [])
        self.check_told((100, [5]), [1, -1] * 30, [-1, 1] * 30, [(0, [-5]), (0, [0])])

    def test_great(self):
        last = (0, [-9 * HUGE, -9 * HUGE, -18 * HUGE])
        self.check(last, telling_state, HUGE_LOCK, [], [1, -1])
        self.check(None, telling_state, HUGE_LOCK, [18 * HUGE], [-HUGE, 19 * HUGE])
        self.check(True, same_effect, HUGE_LOCK, [18 * HUGE], [-HUGE, 19 * HUGE])
        self.check(False, same_effect, HUGE_LOCK, [18 * HUGE - 1], [-HUGE, 19 * HUGE - 1])
        self.check(True, shows_telling, HUGE_LOCK, [], [1, -1], last)
        self.check(False, shows_telling, HUGE_LOCK, [], [1, -1], (0, [1 - 9 * HUGE, 1 - 9 * HUGE, -18 * HUGE]))

    def test_values_that_are_none(self):
        one, other = [], [7]
        self.check(True, shows_telling, LOCK, one, other, (0, [0, 0, 0]))
        for values in [NO_PAIRS, *WRONG_STATES.values()]:
            for value in values:
                with self.subTest(value=value):
                    self.check(False, shows_telling, LOCK, one, other, value)
        for dial in (1, -1, 7, 100, GREAT):
            self.check(False, shows_telling, LOCK, one, other, (dial, [dial] * 3))

    def test_answer_is_new(self):
        told = telling_state(LOCK, [], [7])
        before = repr(told)
        told[1][0] = 5
        self.assertEqual(repr(telling_state(LOCK, [], [7])), before)
        shift, rows = effect_of(LOCK, [5])
        rows.clear()
        self.check((5, [(-85, 0), (-175, 0), (-265, 0)]), effect_of, LOCK, [5])

    def test_answers_may_be_passed_on(self):
        told = telling_state(LOCK, [300], [-5, 305])
        self.check(None, telling_state, LOCK, [300], [-5, 305])
        self.assertIsNone(told)
        told = telling_state(LOCK, [200], [-5, 205])
        self.check(True, shows_telling, LOCK, [200], [-5, 205], told)
        self.assertNotEqual(turned_state(LOCK, told, [200]), turned_state(LOCK, told, [-5, 205]))


if __name__ == "__main__":
    unittest.main()
