"""Points 14 and 15, and the opening lines of Part 4: wheels that nobody sees."""

import unittest
from itertools import product

from dialpack.errors import (
    Impossible, InvalidDial, InvalidGates, InvalidLock, InvalidNumber, InvalidSpans, InvalidTurns,
)
from dialpack.locks import is_open, is_state
from dialpack.turning import turned_state
from dialpack.unseen import (
    can_open, gathered_from, gathered_wheels, is_gathered, must_open, open_start, shows_start, wheel_spans,
)
from tests.support import NO_INTEGERS, NO_LISTS, NO_PAIRS, PointCase, states_at
from tests.test_effects import SMALL_LOCKS, SOME_TURNS
from tests.test_locks import LOCK, WRONG_GATES, WRONG_LOCKS, WRONG_STATES
from tests.test_turning import GREAT, HUGE, HUGE_LOCK, WRONG_TURNS

GATES = [3, 50, 61]
NO_SPANS = [
    *NO_PAIRS, [0, 0], (0, None), (None, 0), (True, 1), (0, True), (0.0, 1), (0, "1"), (1, 0), (0, -1), (GREAT, -GREAT),
    (0, 0, 0), ((0, 0),), ([0], [0]),
]
SPAN = (-50, -40)

# Wrong spans for LOCK by the index of their error. None is right: nothing is known.
WRONG_SPANS = {
    None: [
        *[value for value in NO_LISTS if value is not None],
        [], [SPAN], [SPAN] * 2, [SPAN] * 4, (SPAN,) * 3, [None], [(1, 0)] * 2,
    ],
    0: [[wrong, SPAN, SPAN] for wrong in NO_SPANS] + [[wrong, None, (1, 0)] for wrong in NO_SPANS],
    1: [[SPAN, wrong, SPAN] for wrong in NO_SPANS] + [[SPAN, wrong, wrong] for wrong in NO_SPANS],
    2: [[SPAN, SPAN, wrong] for wrong in NO_SPANS],
}

# Spans of a lock at the dial 0 that no state fits.
NARROW_LOCK = (100, [9, 9, 9])
NONE_FITS = [
    [(1, 1), (-9, 0), (-9, 0)], [(-20, -10), (-20, 0), (-20, 0)], [(-9, 0), (1, 5), (-9, 0)],
    [(-9, 0), (-30, -19), (-30, 0)], [(-9, 0), (-18, 0), (1, 1)], [(-9, 0), (-18, 0), (-28, -28)],
    [(-9, 0), (-5, 0), (-30, -15)], [(-1, 0), (-18, -11), (-30, 0)], [(-9, -2), (-18, 0), (-1, 0)],
]


def states_that_fit(lock, dial, spans):
    return [
        state for state in states_at(lock, dial)
        if spans is None or all(least <= place <= greatest for place, (least, greatest) in zip(state[1], spans))
    ]


def places_behind(lock, dial, spans, turns):
    """For each wheel the set of its places behind the turns, of all states that fit."""
    led = [turned_state(lock, state, turns)[1] for state in states_that_fit(lock, dial, spans)]
    return [set(places) for places in zip(*led)]


class Examples(PointCase):
    def test_spans(self):
        self.run_examples("""
>>> from dialpack.unseen import gathered_from, gathered_wheels, is_gathered, wheel_spans
>>> lock = (100, [90, 90, 90])
>>> [wheel_spans(lock, 0, None, [100]), wheel_spans(lock, 0, [(-40, -10), (-200, 50), (-60, -60)], [])]
[[(10, 10), (-80, 0), (-170, 0)], [(-40, -10), (-60, -10), (-60, -60)]]
>>> [gathered_wheels(lock, [turn]) for turn in (89, 90, 200, -270)]
[[], [1], [1, 2], [1, 2, 3]]
>>> [gathered_from(lock, turns) for turns in ([300, -150, -20, 10], [300, -150, -130], [200, -200])]
[0, 1, None]
""", 5)

    def test_opening(self):
        self.run_examples("""
>>> from dialpack.unseen import can_open, must_open, shows_start
>>> lock = (100, [90, 90, 90])
>>> [must_open(lock, 0, None, turns, [3, 50, 61], 0) for turns in ([331, -181, 143], [61, -181, 143])]
[True, False]
>>> [can_open(lock, dial, None, [], [3, 50, 57], 2) for dial in (0, 20)]
[False, True]
>>> [shows_start(lock, 20, None, [], [3, 50, 57], 2, (20, places)) for places in ([3, -52, -141], [3, -50, -139])]
[True, False]
""", 5)


class WrongArguments(PointCase):
    def check_opening(self, error, *args):
        self.check_error(error, must_open, *args)
        self.check_error(error, can_open, *args)
        self.check_error(error, open_start, *args)
        self.check_error(error, shows_start, *args, None)
        self.check_error(error, shows_start, *args, (0, [0, 0, 0]))

    def test_lock(self):
        for index, locks in WRONG_LOCKS.items():
            error = InvalidLock(index)
            for lock in locks:
                with self.subTest(lock=lock):
                    self.check_error(error, wheel_spans, lock, 0, None, [])
                    self.check_error(error, gathered_wheels, lock, [5])
                    self.check_error(error, is_gathered, lock, [5])
                    self.check_error(error, gathered_from, lock, [5])
                    self.check_opening(error, lock, 0, None, [], [0], 0)

    def test_dial(self):
        for dial in NO_INTEGERS:
            with self.subTest(dial=dial):
                self.check_error(InvalidDial(""), wheel_spans, LOCK, dial, None, [])
                self.check_opening(InvalidDial(""), LOCK, dial, None, [], GATES, 0)

    def test_spans(self):
        for index, rows in WRONG_SPANS.items():
            error = InvalidSpans(index)
            for spans in rows:
                with self.subTest(spans=spans):
                    self.check_error(error, wheel_spans, LOCK, 0, spans, [])
                    self.check_opening(error, LOCK, 0, spans, [], GATES, 0)

    def test_turns(self):
        for index, rows in WRONG_TURNS.items():
            error = InvalidTurns(index)
            for turns in rows:
                with self.subTest(turns=turns):
                    self.check_error(error, wheel_spans, LOCK, 0, None, turns)
                    self.check_error(error, gathered_wheels, LOCK, turns)
                    self.check_error(error, is_gathered, LOCK, turns)
                    self.check_error(error, gathered_from, LOCK, turns)
                    self.check_opening(error, LOCK, 0, None, turns, GATES, 0)

    def test_gates(self):
        for index, rows in WRONG_GATES.items():
            for gates in rows:
                with self.subTest(gates=gates):
                    self.check_opening(InvalidGates(index), LOCK, 0, None, [], gates, 0)

    def test_tolerance(self):
        for tolerance in [*NO_INTEGERS, -1, 50, 51, 100, GREAT, -GREAT]:
            with self.subTest(tolerance=tolerance):
                self.check_opening(InvalidNumber(""), LOCK, 0, None, [], GATES, tolerance)
        for ring, most in [(2, 0), (3, 1), (4, 1), (5, 2), (GREAT, GREAT // 2)]:
            self.check(True, must_open, (ring, [0]), 0, None, [], [0], most)
            self.check_opening(InvalidNumber(""), (ring, [0]), 0, None, [], [0], most + 1)

    def test_no_state_fits(self):
        for spans in NONE_FITS:
            with self.subTest(spans=spans):
                self.assertEqual(states_that_fit(NARROW_LOCK, 0, spans), [])
                self.check_error(Impossible(""), wheel_spans, NARROW_LOCK, 0, spans, [5])
                self.check_opening(Impossible(""), NARROW_LOCK, 0, spans, [5], GATES, 0)

    def test_impossible_stands_behind_all_others(self):
        spans = NONE_FITS[0]
        self.check_error(InvalidTurns(1), wheel_spans, NARROW_LOCK, 0, spans, [5, 0])
        self.check_opening(InvalidTurns(1), NARROW_LOCK, 0, spans, [5, 0], GATES, 0)
        self.check_opening(InvalidGates(2), NARROW_LOCK, 0, spans, [5], [0, 0, 100], 0)
        self.check_opening(InvalidNumber(""), NARROW_LOCK, 0, spans, [5], GATES, 50)
        self.check_opening(Impossible(""), NARROW_LOCK, 0, spans, [5], GATES, 49)


class Spans(PointCase):
    def check_spans(self, lock, dial, spans, turns):
        behind = places_behind(lock, dial, spans, turns)
        if not behind:
            self.check_error(Impossible(""), wheel_spans, lock, dial, spans, turns)
            return
        answer = self.call(wheel_spans, lock, dial, spans, turns)
        self.assert_same(answer, [(min(places), max(places)) for places in behind])
        # Stretches stand for all integers in them.
        self.assertEqual([set(range(least, greatest + 1)) for least, greatest in answer], behind)

    def test_nothing_known(self):
        for lock in SMALL_LOCKS:
            for turns in SOME_TURNS:
                for dial in (0, 7, -5):
                    self.check_spans(lock, dial, None, turns)

    def test_all_spans_of_a_small_lock(self):
        some = [(least, greatest) for least in range(-5, 3) for greatest in range(least, 3)]
        for spans in product(some, repeat=2):
            for turns in ([], [3, -1], [-1, 2]):
                behind = places_behind((4, [2, 2]), 1, spans, turns)
                if behind:
                    expected = [(min(places), max(places)) for places in behind]
                    self.assertEqual(wheel_spans((4, [2, 2]), 1, list(spans), turns), expected)
                else:
                    self.assertRaises(Impossible, wheel_spans, (4, [2, 2]), 1, list(spans), turns)

    def test_some_spans(self):
        lock = (10, [3, 0, 4, 2])
        wide = (-50, 50)
        for spans in [
            [wide, wide, wide, (-9, -9)], [(-3, -3), wide, wide, wide], [wide, wide, wide, (0, 0)],
            [wide, (-2, -1), (-6, -4), wide], [wide, (-1, 0), wide, (-8, -7)], [wide, wide, (-1, 5), (-4, -3)],
            [(-2, 0), (-3, -1), (-6, -2), (-20, -7)], [(0, 0), wide, (-4, -4), wide], [(0, 0), wide, (-5, -5), wide],
            [wide, (-4, -4), wide, wide], [wide, wide, wide, (-10, -10)],
        ]:
            for turns in SOME_TURNS:
                with self.subTest(spans=spans, turns=turns):
                    self.check_spans(lock, 0, spans, turns)

    def test_only_one_state_fits(self):
        for lock in SMALL_LOCKS:
            for state in states_at(lock, -2):
                spans = [(place, place) for place in state[1]]
                self.check(spans, wheel_spans, lock, -2, spans, [])
                for turns in SOME_TURNS:
                    behind = [(place, place) for place in turned_state(lock, state, turns)[1]]
                    self.assertEqual(wheel_spans(lock, -2, spans, turns), behind)

    def test_last_wheel_tells_of_all(self):
        # The last wheel at its least place has all the others at theirs, at the dial it has all of them there.
        wide = (-GREAT, GREAT)
        self.check([(-90, -90), (-180, -180), (-270, -270)], wheel_spans, LOCK, 0, [wide, wide, (-GREAT, -270)], [])
        self.check([(-90, -89), (-180, -179), (-270, -269)], wheel_spans, LOCK, 0, [wide, wide, (-GREAT, -269)], [])
        self.check([(0, 0)] * 3, wheel_spans, LOCK, 0, [wide, wide, (0, GREAT)], [])
        self.check([(-1, 0)] * 3, wheel_spans, LOCK, 0, [wide, wide, (-1, GREAT)], [])

    def test_sixty(self):
        self.check([(0, 0)], wheel_spans, (100, [60]), 0, None, [1] * 60)
        self.check([(-1, 0)], wheel_spans, (100, [60]), 0, None, [1] * 59)
        self.check([(-60, -1)], wheel_spans, (100, [60]), 0, None, [-1, 1] * 30)

    def test_great(self):
        reach = 9 * HUGE
        self.check([(5 - reach, 5), (5 - reach, 5), (5 - 2 * reach, 5)], wheel_spans, HUGE_LOCK, 5, None, [])
        self.check([(1, 1), (1, 1), (1 - reach, 0)], wheel_spans, HUGE_LOCK, 0, None, [reach + 1])
        wide = (-9 * GREAT, GREAT)
        self.check([(-reach, -5 * HUGE), (-reach, -5 * HUGE), (-2 * reach, -14 * HUGE)],
                   wheel_spans, HUGE_LOCK, 0, [wide, wide, (-9 * GREAT, -14 * HUGE)], [])
        self.check([(-reach, -reach), (-reach, -reach), (-2 * reach, -2 * reach)],
                   wheel_spans, HUGE_LOCK, 0, [wide, wide, (-9 * GREAT, -2 * reach)], [])
        self.check_error(Impossible(""), wheel_spans, HUGE_LOCK, 0, [wide, wide, (-9 * GREAT, -2 * reach - 1)], [])

    def test_answer_is_new(self):
        spans = [(-5, -5)] * 3
        answer = wheel_spans(LOCK, 0, spans, [])
        answer[0] = None
        self.assertEqual(spans, [(-5, -5)] * 3)
        self.check([(-5, -5)] * 3, wheel_spans, LOCK, 0, spans, [])

    def test_answers_may_be_passed_on(self):
        spans = wheel_spans(LOCK, 0, None, [100])
        self.check([(-20, -20), (-80, -20), (-170, -20)], wheel_spans, LOCK, 100, spans, [-120, 20])


class Gathered(PointCase):
    def check_gathered(self, lock, turns, wheels):
        self.check(wheels, gathered_wheels, lock, turns)
        self.check(len(wheels) == len(lock[1]), is_gathered, lock, turns)

    def test_just_the_reach(self):
        for turns, wheels in [
            ([], []), ([89], []), ([90], [1]), ([91], [1]), ([179], [1]), ([180], [1, 2]), ([181], [1, 2]),
            ([269], [1, 2]), ([270], [1, 2, 3]), ([271], [1, 2, 3]), ([-269], [1, 2]), ([-270], [1, 2, 3]),
            ([-271], [1, 2, 3]), ([135, 135], [1, 2, 3]), ([135, 134], [1, 2]), ([-39, 269], [1, 2]),
            ([-39, 270], [1, 2, 3]), ([200, -200], [1, 2]), ([270, -1, 1, -5], [1, 2, 3]), ([1, -1] * 30, []),
            ([100, -269, 5], [1, 2]), ([100, -270, 5], [1, 2, 3]), ([4] * 60, [1, 2]), ([5] * 60, [1, 2, 3]),
        ]:
            with self.subTest(turns=turns):
                self.check_gathered(LOCK, turns, wheels)

    def test_plays_of_0(self):
        self.check_gathered((100, [0]), [], [1])
        self.check_gathered((100, [0] * 8), [], list(range(1, 9)))
        self.check_gathered((100, [0, 5, 0]), [], [1])
        self.check_gathered((100, [0, 5, 0]), [4], [1])
        self.check_gathered((100, [0, 5, 0]), [-5], [1, 2, 3])

    def test_all_of_small_locks(self):
        for lock in SMALL_LOCKS:
            for turns in SOME_TURNS:
                behind = [turned_state(lock, state, turns)[1] for state in states_at(lock, 3)]
                wheels = [wheel for wheel, places in enumerate(zip(*behind), 1) if len(set(places)) == 1]
                self.check_gathered(lock, turns, wheels)

    def test_from(self):
        for turns, index in [
            ([], None), ([270], 0), ([269], None), ([269, 1], 0), ([1, 269], 0), ([269, -1], None), ([269, -270], 1),
            ([1, -270], 1), ([5, 270, -5], 1), ([300, -300, 300], 2), ([300, -300, 100], 1), ([300, -30, 40], 0),
            ([-5, 200, -10, 80], 1), ([-5, 200, -10, 79], None), ([-5, 200, 5, 65, -3], 1), ([-6, 200, 5, 65, -3], 1),
            ([5] * 60, 6), ([5] * 53, None), ([5] * 54, 0), ([1] * 59 + [-270], 59), ([-270] + [1] * 59, 0),
        ]:
            with self.subTest(turns=turns):
                self.check(index, gathered_from, LOCK, turns)

    def test_from_the_end_on(self):
        self.check(0, gathered_from, (100, [0, 0]), [])
        self.check(3, gathered_from, (100, [0, 0]), [5, -5, 7])
        self.check(60, gathered_from, (100, [0]), [1] * 60)
        self.check(2, gathered_from, (100, [0, 5]), [5, -5, 5])
        self.check(None, gathered_from, (100, [0, 5]), [4, -4, 4])

    def test_from_is_the_greatest(self):
        for lock in SMALL_LOCKS:
            for turns in SOME_TURNS:
                indexes = [index for index in range(len(turns) + 1) if is_gathered(lock, turns[index:])]
                self.check(max(indexes, default=None), gathered_from, lock, turns)

    def test_great(self):
        self.check_gathered(HUGE_LOCK, [18 * HUGE - 1], [1, 2])
        self.check_gathered(HUGE_LOCK, [18 * HUGE], [1, 2, 3])
        self.check(1, gathered_from, HUGE_LOCK, [-GREAT, 18 * HUGE, -1])
        self.check(None, gathered_from, HUGE_LOCK, [-GREAT, HUGE, 18 * HUGE - GREAT])

    def test_answer_is_new(self):
        gathered_wheels(LOCK, [200]).append(7)
        self.check([1, 2], gathered_wheels, LOCK, [200])


class Opening(PointCase):
    def check_opening(self, lock, dial, spans, turns, gates, tolerance):
        """That all answers are those that the states tell one by one."""
        args = (lock, dial, spans, turns, gates, tolerance)
        fitting = states_that_fit(lock, dial, spans)
        opening = [state for state in fitting if is_open(lock, turned_state(lock, state, turns), gates, tolerance)]
        self.assertIs(must_open(*args), len(opening) == len(fitting), args)
        self.assertIs(can_open(*args), bool(opening), args)
        start = open_start(*args)
        self.assertIn(start, opening or [None], args)
        if start is not None:
            self.assertIs(shows_start(*args, start), True)
            self.assertTrue(is_state(lock, start))

    def test_all_of_small_locks(self):
        for lock in [(2, [0]), (3, [7]), (4, [5]), (2, [3, 2]), (3, [1, 4]), (4, [2, 1]), (5, [0, 9]), (2, [1, 2, 3])]:
            ring, plays = lock
            for turns in [[], [2], [-3], [3, -2], [-1, 4, -1], [20, -4, 3]]:
                for gates in product(range(ring), repeat=len(plays)):
                    for tolerance in range((ring - 1) // 2 + 1):
                        self.check_opening(lock, 1, None, turns, list(gates), tolerance)

    def test_spans_of_small_locks(self):
        some = [(least, greatest) for least in range(-4, 1) for greatest in range(least, 1)]
        lock = (3, [2, 2])
        for spans in product(some, repeat=2):
            if not states_that_fit(lock, 0, spans):
                self.assertRaises(Impossible, must_open, lock, 0, list(spans), [], [0, 0], 0)
                continue
            for turns in [[], [2, -1], [-3, 5]]:
                for gates, tolerance in [([0, 0], 0), ([1, 2], 0), ([2, 1], 0), ([0, 1], 1)]:
                    self.check_opening(lock, 0, list(spans), turns, gates, tolerance)

    def test_shown_are_those_that_open(self):
        lock = (4, [2, 3])
        for spans in (None, [(-1, 1), (-4, -2)], [(-3, -2), (-9, 9)]):
            for turns, gates, tolerance in [([], [3, 2], 1), ([3, -2], [3, 2], 1), ([1], [0, 0], 0), ([], [1, 1], 0)]:
                fitting = states_that_fit(lock, 0, spans)
                for dial in (-1, 0, 1, 4):
                    for state in states_at(lock, dial):
                        opens = is_open(lock, turned_state(lock, state, turns), gates, tolerance)
                        shown = self.call(shows_start, lock, 0, spans, turns, gates, tolerance, state)
                        self.assertIs(shown, state in fitting and opens)

    def test_values_that_are_none(self):
        args = (LOCK, 300, None, [], [10, 20, 30], 0)
        self.check(True, shows_start, *args, (300, [210, 120, 30]))
        for values in [NO_PAIRS, *WRONG_STATES.values()]:
            for value in values:
                with self.subTest(value=value):
                    self.check(False, shows_start, *args, value)
        # One dial more or less, whole turns of the ring, and places that stand in their gates but do not fit.
        for value in [(301, [211, 121, 31]), (400, [310, 220, 130]), (299, [210, 120, 30]), (200, [110, 20, -70])]:
            self.check(False, shows_start, *args, value)
        spans = [(211, 300), (0, 300), (0, 300)]
        self.check(False, shows_start, LOCK, 300, spans, [], [10, 20, 30], 0, (300, [210, 120, 30]))
        spans = [(210, 300), (0, 120), (30, 30)]
        self.check(True, shows_start, LOCK, 300, spans, [], [10, 20, 30], 0, (300, [210, 120, 30]))

    def test_states_of_places_and_dial(self):
        self.check((20, [3, -52, -141]), open_start, LOCK, 20, [(3, 3), (-52, -52), (-141, -141)], [], [3, 50, 57], 2)
        self.check(None, open_start, LOCK, 20, [(3, 3), (-52, -52), (-139, -139)], [], [3, 50, 57], 2)
        self.check(None, open_start, LOCK, 0, None, [], [3, 50, 57], 2)

    def test_must_just_within_and_just_beyond(self):
        turns, spans = [5, -5], [(-7, -3), (-95, -91), (-99, -95)]
        for gates, opens in [
            ([95, 7, 3], True), ([94, 7, 3], False), ([96, 7, 3], False), ([95, 6, 3], False), ([95, 8, 3], False),
            ([95, 7, 2], False), ([95, 7, 4], False),
        ]:
            with self.subTest(gates=gates):
                self.check(opens, must_open, LOCK, 0, spans, turns, gates, 2)
                self.check(False, must_open, LOCK, 0, spans, turns, gates, 1)
                self.check(True, must_open, LOCK, 0, spans, turns, gates, 3)
                self.check(True, can_open, LOCK, 0, spans, turns, gates, 2)

    def test_must_round_the_ring(self):
        for spans, gate, opens in [
            ([(-3, 0)], 98, True), ([(-4, 0)], 98, True), ([(-4, 0)], 97, False), ([(-4, 0)], 99, False),
            ([(-5, 0)], 98, False), ([(-104, -100)], 98, True), ([(-104, 0)], 98, False), ([(-100, 0)], 98, False),
        ]:
            with self.subTest(spans=spans, gate=gate):
                self.check(opens, must_open, (100, [150]), 0, spans, [], [gate], 2)

    def test_gates_that_take_up_the_ring(self):
        # With an odd ring the greatest tolerance lets every number open, with an even one it lets all but one.
        for turns in ([], [50], [-3, 9]):
            self.check(True, must_open, (5, [90, 90]), 0, None, turns, [3, 1], 2)
            self.check(False, must_open, (6, [90, 90]), 0, None, turns, [3, 1], 2)
            self.check(True, can_open, (6, [90, 90]), 0, None, turns, [3, 1], 2)
        self.check(True, must_open, (6, [4]), 4, None, [], [2], 2)
        self.check(False, must_open, (6, [5]), 5, None, [], [2], 2)

    def test_can_just_within_and_just_beyond(self):
        # The wheel is from -90 to 0, in a stretch from 10 on up to 100 of its ring.
        lock = (100, [90])
        for gate, tolerance, opens in [
            (5, 4, False), (5, 5, True), (4, 3, False), (4, 4, True), (6, 3, False), (6, 4, True), (0, 0, True),
            (1, 0, False), (9, 0, False), (10, 0, True), (9, 1, True),
        ]:
            with self.subTest(gate=gate, tolerance=tolerance):
                self.check(opens, can_open, lock, 0, None, [], [gate], tolerance)
        # Wheel 2 is at most 90 behind wheel 1.
        spans = [(-3, -3), (-200, 200)]
        for gate, tolerance, opens in [
            (6, 0, False), (7, 0, True), (97, 0, True), (98, 0, False), (2, 4, False), (2, 5, True),
        ]:
            with self.subTest(gate=gate, tolerance=tolerance):
                self.check(opens, can_open, (100, [90, 90]), 0, spans, [], [97, gate], tolerance)

    def test_start_just_within_and_just_beyond(self):
        spans = [(-3, -3), (-200, 200)]
        self.check(None, open_start, (100, [90, 90]), 0, spans, [], [97, 2], 4)
        self.check((0, [-3, -93]), open_start, (100, [90, 90]), 0, spans, [], [97, 4], 3)
        self.check((0, [-3, -3]), open_start, (100, [90, 90]), 0, spans, [], [97, 97], 0)
        self.check(None, open_start, (100, [90, 90]), 0, spans, [], [97, 98], 0)

    def test_a_play_ahead_decides(self):
        # Both wheels can be in their gates, but not at the same time.
        lock = (100, [20, 5])
        self.check(True, can_open, lock, 0, [(-20, 0), (-25, 0)], [], [95, 90], 0)
        self.check(False, can_open, lock, 0, [(-20, 0), (-25, 0)], [], [95, 89], 0)
        self.check(False, can_open, lock, 0, [(-20, 0), (-25, 0)], [], [89, 90], 0)
        self.check(False, can_open, lock, 0, None, [], [88, 91], 1)
        self.check((0, [-11, -11]), open_start, lock, 0, None, [], [88, 90], 1)

    def test_sixty_turns(self):
        self.check(True, must_open, (100, [20]), 0, None, [1] * 60, [40], 0)
        self.check(True, must_open, (100, [20]), 0, None, [1, -1] * 30, [90], 10)
        self.check(False, must_open, (100, [20]), 0, None, [1, -1] * 30, [90], 9)
        self.check(False, can_open, (100, [20]), 0, None, [1, -1] * 30, [80], 0)
        self.check(True, can_open, (100, [20]), 0, None, [1, -1] * 30, [81], 0)

    def test_plays_of_20_rings(self):
        for ring in (2, 100, GREAT):
            plays = [20 * ring] * 8
            gates = [wheel % 2 for wheel in range(8)]
            start = self.call(open_start, (ring, plays), 5, None, [], gates, 0)
            self.check(True, shows_start, (ring, plays), 5, None, [], gates, 0, start)
            self.check(False, must_open, (ring, plays), 5, None, [], gates, 0)
            self.check(True, must_open, (ring, plays), 0, None, [-161 * ring], [0] * 8, 0)
        plays = [2000, 0, 0, 0, 2000, 0, 0, 0]
        self.check(False, can_open, (100, plays), 0, None, [], [5, 5, 5, 6, 7, 7, 7, 7], 0)
        self.check(True, can_open, (100, plays), 0, None, [], [5, 5, 5, 6, 7, 7, 7, 7], 1)

    def test_great(self):
        lock = (GREAT, [10 * GREAT, HUGE, 0])
        gates = [HUGE, GREAT - 5, GREAT - 5]
        self.check(False, can_open, lock, 0, None, [], gates, 0)
        self.check(False, can_open, lock, 0, None, [], gates, 2)
        self.check(True, can_open, lock, 0, None, [], gates, 3)
        start = self.call(open_start, lock, 0, None, [GREAT, -3], gates, 5)
        self.check(True, shows_start, lock, 0, None, [GREAT, -3], gates, 5, start)
        self.check(True, must_open, HUGE_LOCK, 0, None, [-27 * HUGE], [3 * HUGE + 21] * 3, 0)
        self.check(False, must_open, HUGE_LOCK, 0, None, [-27 * HUGE], [3 * HUGE + 20] * 3, 0)
        self.check(True, must_open, HUGE_LOCK, 0, None, [-27 * HUGE], [3 * HUGE + 20] * 3, 1)

    def test_answer_is_new(self):
        start = open_start(LOCK, 0, None, [], [0, 0, 0], 0)
        before = repr(start)
        start[1][0] = None
        self.assertEqual(repr(open_start(LOCK, 0, None, [], [0, 0, 0], 0)), before)


if __name__ == "__main__":
    unittest.main()
