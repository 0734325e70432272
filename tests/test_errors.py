"""Point 3: the errors."""

import unittest

from dialpack import errors
from dialpack.blind import blind_turns, blind_way, shows_blind
from dialpack.combos import can_dial, dial_count, forbidden_numbers, gates_rank, nth_gates, open_state
from dialpack.dialing import goal_turns, goal_way
from dialpack.effects import effect_of, same_effect, shows_telling, telling_state
from dialpack.errors import LockError
from dialpack.hands import greatest_hand, hand_spans, off_list, shows_off, sure_open
from dialpack.locks import is_lock, is_open, is_state, numbers_of, pushed_back, pushed_up, reach_of
from dialpack.plays import place_behind, reaches_for, reaches_open
from dialpack.shortest import least_turns, least_way, shows_dialing
from dialpack.texts import parse_gates, parse_lock, parse_state, parse_turns
from dialpack.tries import is_left, left_count, left_numbers, left_rank, nth_left
from dialpack.turning import click_row, joined_turns, moved_wheels, state_trail, turned_state, way_of
from dialpack.unseen import (
    can_open, gathered_from, gathered_wheels, is_gathered, must_open, open_start, shows_start, wheel_spans,
)
from tests.support import PointCase

OF_A_STRING = [
    "InvalidWheel", "InvalidDial", "InvalidTurn", "InvalidNumber", "Impossible", "NothingToUndo", "InvalidCommand",
]
FIELDS = {
    "InvalidLock": "index", "InvalidState": "index", "InvalidTurns": "index", "InvalidGates": "index",
    "InvalidSpans": "index", "InvalidTries": "index", "InvalidSyntax": "word",
}


class ErrorClasses(PointCase):
    def test_base(self):
        self.assertEqual(LockError.__bases__, (ValueError,))
        error = LockError("why")
        self.assertEqual(str(error), "why")
        self.assertEqual(vars(error), {})

    def test_each_is_directly_under_the_base(self):
        for name in [*OF_A_STRING, *FIELDS]:
            with self.subTest(name):
                self.assertEqual(getattr(errors, name).__bases__, (LockError,))
                self.assertEqual(getattr(errors, name).__module__, "dialpack.errors")

    def test_of_a_string(self):
        for name in OF_A_STRING:
            with self.subTest(name):
                error = getattr(errors, name)("why")
                self.assertIsInstance(error, LockError)
                self.assertIsInstance(error, ValueError)
                self.assertEqual(str(error), "why")
                self.assertEqual(vars(error), {})

    def test_of_a_field(self):
        for name, field in FIELDS.items():
            error_class = getattr(errors, name)
            for worth in (None, 0, 1, 59):
                with self.subTest(name, worth=worth):
                    for error in (error_class(worth), error_class(**{field: worth})):
                        self.assertIsInstance(error, LockError)
                        self.assertIsInstance(error, ValueError)
                        self.assert_same(vars(error), {field: worth})
                        self.assertIsInstance(str(error), str)

    def test_field_is_needed(self):
        for name in FIELDS:
            with self.subTest(name):
                self.assertRaises(TypeError, getattr(errors, name))
                self.assertRaises(TypeError, getattr(errors, name), 0, 1)

    def test_can_be_caught_as_a_value_error(self):
        for name in [*OF_A_STRING, *FIELDS]:
            with self.subTest(name), self.assertRaises(ValueError):
                raise getattr(errors, name)("why")

    def test_there_are_no_others(self):
        found = [name for name, value in vars(errors).items() if isinstance(value, type)]
        self.assertEqual(sorted(found), sorted(["LockError", *OF_A_STRING, *FIELDS]))


LOCK, STATE = (100, [90, 90, 90]), (300, [210, 120, 30])

# Each function with valid arguments, and for each argument a value that is wrong, with its error.
BAD_LOCK = ((100, []), errors.InvalidLock(1))
BAD_STATE = ((300, [210, 120, 29]), errors.InvalidState(1))
BAD_TURNS = ([5, 0], errors.InvalidTurns(1))
OTHER_BAD_TURNS = ([0], errors.InvalidTurns(0))
OTHER_BAD_STATE = ((None, [210, 120, 29]), errors.InvalidState(0))
BAD_TURN = (0, errors.InvalidTurn("0"))
BAD_DIAL = (None, errors.InvalidDial("None"))
BAD_SPANS = ([(0, 0), (0, 0), (0, -1)], errors.InvalidSpans(2))
BAD_GATES = ([10, 100, -1], errors.InvalidGates(1))
BAD_NUMBER = (-1, errors.InvalidNumber("-1"))
UNSEEN, BAD_UNSEEN = (LOCK, 0, None, [5]), [BAD_LOCK, BAD_DIAL, BAD_SPANS, BAD_TURNS]
OPENING, BAD_OPENING = (*UNSEEN, [3, 50, 61], 0), [*BAD_UNSEEN, BAD_GATES, BAD_NUMBER]
DIALING, BAD_DIALING = (LOCK, STATE, [3, 50, 61]), [BAD_LOCK, BAD_STATE, BAD_GATES]
BLIND, BAD_BLIND = (LOCK, 0, [3, 50, 61]), [BAD_LOCK, BAD_DIAL, BAD_GATES]
HAND, BAD_HAND = (LOCK, STATE, [5], 1), [BAD_LOCK, BAD_STATE, BAD_TURNS, BAD_NUMBER]
SURE, BAD_SURE = (*HAND, [15, 25, 35], 0), [*BAD_HAND, BAD_GATES, BAD_NUMBER]
BAD_TRIES = ([[0, 0, 0], [0, 0, 100]], errors.InvalidTries(1))
LEFT, BAD_LEFT = (LOCK, 1, [[3, 50, 61]]), [BAD_LOCK, BAD_NUMBER, BAD_TRIES]
CALLS = [
    (reach_of, (LOCK, 1), [BAD_LOCK, (4, errors.InvalidWheel("4"))]),
    (is_state, (LOCK, STATE), [BAD_LOCK]),
    (numbers_of, (LOCK, STATE), [BAD_LOCK, BAD_STATE]),
    (pushed_up, (LOCK, 0), [BAD_LOCK, BAD_DIAL]),
    (pushed_back, (LOCK, 0), [BAD_LOCK, BAD_DIAL]),
    (is_open, (LOCK, STATE, [10, 20, 30], 0), [
        BAD_LOCK, BAD_STATE, BAD_GATES, (50, errors.InvalidNumber("50")),
    ]),
    (turned_state, (LOCK, STATE, [5]), [BAD_LOCK, BAD_STATE, BAD_TURNS]),
    (state_trail, (LOCK, STATE, [5]), [BAD_LOCK, BAD_STATE, BAD_TURNS]),
    (way_of, ([5],), [BAD_TURNS]),
    (joined_turns, ([5],), [BAD_TURNS]),
    (moved_wheels, (LOCK, STATE, 5), [BAD_LOCK, BAD_STATE, BAD_TURN]),
    (click_row, (LOCK, STATE, 5), [BAD_LOCK, BAD_STATE, BAD_TURN]),
    (effect_of, (LOCK, [5]), [BAD_LOCK, BAD_TURNS]),
    (same_effect, (LOCK, [5], [5]), [BAD_LOCK, BAD_TURNS, OTHER_BAD_TURNS]),
    (telling_state, (LOCK, [5], [5]), [BAD_LOCK, BAD_TURNS, OTHER_BAD_TURNS]),
    (shows_telling, (LOCK, [5], [5], STATE), [BAD_LOCK, BAD_TURNS, OTHER_BAD_TURNS]),
    (wheel_spans, UNSEEN, BAD_UNSEEN),
    (gathered_wheels, (LOCK, [5]), [BAD_LOCK, BAD_TURNS]),
    (is_gathered, (LOCK, [5]), [BAD_LOCK, BAD_TURNS]),
    (gathered_from, (LOCK, [5]), [BAD_LOCK, BAD_TURNS]),
    (must_open, OPENING, BAD_OPENING),
    (can_open, OPENING, BAD_OPENING),
    (open_start, OPENING, BAD_OPENING),
    (shows_start, (*OPENING, STATE), BAD_OPENING),
    (forbidden_numbers, (LOCK, 2, 0), [BAD_LOCK, (1, errors.InvalidWheel("1")), BAD_NUMBER]),
    (can_dial, (LOCK, [3, 50, 61], 0), [BAD_LOCK, BAD_GATES, BAD_NUMBER]),
    (open_state, (LOCK, [3, 50, 61], 0), [BAD_LOCK, BAD_GATES, BAD_NUMBER]),
    (dial_count, (LOCK,), [BAD_LOCK]),
    (nth_gates, (LOCK, 0), [BAD_LOCK, BAD_NUMBER]),
    (gates_rank, (LOCK, [3, 50, 61]), [BAD_LOCK, BAD_GATES]),
    (goal_turns, (LOCK, STATE, STATE), [BAD_LOCK, BAD_STATE, OTHER_BAD_STATE]),
    (goal_way, (LOCK, STATE, STATE), [BAD_LOCK, BAD_STATE, OTHER_BAD_STATE]),
    (least_way, DIALING, BAD_DIALING),
    (least_turns, DIALING, BAD_DIALING),
    (shows_dialing, (*DIALING, [5]), BAD_DIALING),
    (blind_way, BLIND, BAD_BLIND),
    (blind_turns, BLIND, BAD_BLIND),
    (shows_blind, (*BLIND, [5]), BAD_BLIND),
    (hand_spans, HAND, BAD_HAND),
    (sure_open, SURE, BAD_SURE),
    (greatest_hand, (LOCK, STATE, [5], [15, 25, 35], 0), [BAD_LOCK, BAD_STATE, BAD_TURNS, BAD_GATES, BAD_NUMBER]),
    (off_list, SURE, BAD_SURE),
    (shows_off, (*SURE, [1]), BAD_SURE),
    (place_behind, (90, [5]), [BAD_NUMBER, BAD_TURNS]),
    (reaches_for, ([5], 0, 90), [BAD_TURNS, BAD_DIAL, BAD_NUMBER]),
    (reaches_open, (100, [5], 0, 1, 90), [BAD_NUMBER, BAD_TURNS, BAD_NUMBER, BAD_NUMBER, BAD_NUMBER]),
    (left_count, LEFT, BAD_LEFT),
    (is_left, (*LEFT, [3, 50, 61]), [*BAD_LEFT, BAD_GATES]),
    (left_numbers, (*LEFT, 1), [*BAD_LEFT, (0, errors.InvalidWheel("0"))]),
    (nth_left, (*LEFT, 0), [*BAD_LEFT, BAD_NUMBER]),
    (left_rank, (*LEFT, [3, 50, 63]), [*BAD_LEFT, BAD_GATES]),
    (parse_lock, ("100: 90",), [("100: 90 x", errors.InvalidSyntax(2))]),
    (parse_turns, ("+5",), [("+5 x", errors.InvalidSyntax(1))]),
    (parse_state, (LOCK, "0: 0 0 0"), [BAD_LOCK, ("0: 0 x", errors.InvalidSyntax(2))]),
    (parse_gates, (LOCK, "3-50-61"), [BAD_LOCK, ("3-50", errors.InvalidSyntax(0))]),
]

# What None is first of all, to functions whose first argument is no lock.
FIRST_ERRORS = {
    way_of: errors.InvalidTurns(None), joined_turns: errors.InvalidTurns(None), reaches_for: errors.InvalidTurns(None),
    place_behind: errors.InvalidNumber(""), reaches_open: errors.InvalidNumber(""),
    parse_lock: errors.InvalidSyntax(None), parse_turns: errors.InvalidSyntax(None),
}

# Calls that are impossible as they stand.
UNFIT, WEDGED = [(1, 1), (0, 0), (0, 0)], [3, 50, 57]
IMPOSSIBLE = [
    (wheel_spans, (LOCK, 0, UNFIT, [5]), BAD_UNSEEN),
    (must_open, (LOCK, 0, UNFIT, [5], WEDGED, 0), BAD_OPENING),
    (can_open, (LOCK, 0, UNFIT, [5], WEDGED, 0), BAD_OPENING),
    (open_start, (LOCK, 0, UNFIT, [5], WEDGED, 0), BAD_OPENING),
    (shows_start, (LOCK, 0, UNFIT, [5], WEDGED, 0, STATE), BAD_OPENING),
    (gates_rank, (LOCK, WEDGED), [BAD_LOCK, BAD_GATES]),
    (least_way, (LOCK, STATE, WEDGED), BAD_DIALING),
    (least_turns, (LOCK, STATE, WEDGED), BAD_DIALING),
    (blind_way, (LOCK, 0, WEDGED), BAD_BLIND),
    (blind_turns, (LOCK, 0, WEDGED), BAD_BLIND),
    (greatest_hand, (LOCK, STATE, [5], WEDGED, 0), [BAD_LOCK, BAD_STATE, BAD_TURNS, BAD_GATES, BAD_NUMBER]),
    (left_rank, (*LEFT, [2, 49, 60]), [*BAD_LEFT, BAD_GATES]),
]


class ErrorOrder(PointCase):
    def test_each_argument_alone(self):
        for function, args, bad in CALLS:
            for at, (value, error) in enumerate(bad):
                with self.subTest(function.__name__, at=at):
                    self.call(function, *args)
                    self.check_error(error, function, *args[:at], value, *args[at + 1:])

    def test_the_first_of_several(self):
        for function, args, bad in CALLS:
            for at, (_, error) in enumerate(bad):
                with self.subTest(function.__name__, at=at):
                    wrong = [value for value, _ in bad[at:]]
                    self.check_error(error, function, *args[:at], *wrong, *args[at + len(wrong):])

    def test_the_first_of_any_two(self):
        for function, args, bad in CALLS:
            for first, (_, error) in enumerate(bad):
                for second in range(first + 1, len(bad)):
                    with self.subTest(function.__name__, first=first, second=second):
                        wrong = list(args)
                        wrong[first] = bad[first][0]
                        wrong[second] = bad[second][0]
                        self.check_error(error, function, *wrong)

    def test_all_arguments_of_no_kind_at_all(self):
        for function, args, _ in CALLS:
            with self.subTest(function.__name__):
                error = FIRST_ERRORS.get(function, errors.InvalidLock(None))
                self.check_error(error, function, *[None for _ in args])

    def test_impossible_stands_behind_all_others(self):
        for function, args, bad in IMPOSSIBLE:
            with self.subTest(function.__name__):
                self.check_error(errors.Impossible(""), function, *args)
            for at, (value, error) in enumerate(bad):
                with self.subTest(function.__name__, at=at):
                    self.check_error(error, function, *args[:at], value, *args[at + 1:])

    def test_is_lock_raises_no_error(self):
        self.check(False, is_lock, None)


if __name__ == "__main__":
    unittest.main()
