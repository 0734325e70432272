"""Points 26, 27 and 28: a live door."""

import inspect
import random
import unittest

from dialpack.errors import InvalidGates, InvalidLock, InvalidNumber, InvalidTurn, InvalidTurns, LockError, NothingToUndo
from dialpack.live import Door
from dialpack.locks import is_open, numbers_of, pushed_back
from dialpack.turning import turned_state
from tests.support import NO_INTEGERS, PointCase, list_ids, lists_in
from tests.test_effects import led_unit_by_unit
from tests.test_locks import LOCK, WRONG_GATES, WRONG_LOCKS
from tests.test_turning import GREAT, HUGE, WRONG_ITEMS, WRONG_TURNS

GATES = [3, 50, 61]
PROPERTIES = ["dial", "places", "numbers", "opened", "tries", "log"]


def told_by(door):
    """All that a door tells of itself."""
    return {name: getattr(door, name) for name in PROPERTIES} | {"len": len(door)}


def expected_of(lock, gates, tolerance, log):
    """What a door has to tell behind these calls, led unit by unit."""
    state = pushed_back(lock, 0)
    pulled = []
    for call in log:
        if call == ("pull",):
            pulled.append((numbers_of(lock, state), is_open(lock, state, gates, tolerance)))
        else:
            state = led_unit_by_unit(lock, state, [call[1]])
    return {
        "dial": state[0], "places": state[1], "numbers": [place % lock[0] for place in state[1]],
        "opened": any(opened for _, opened in pulled), "tries": [numbers for numbers, opened in pulled if not opened],
        "log": list(log), "len": len(log),
    }


def drawn_call(rows, most):
    return ("pull",) if rows.random() < 0.4 else ("turn", rows.choice([-1, 1]) * rows.randint(1, most))


class DoorCase(PointCase):
    def carry_out(self, door, call):
        """The answer of a call that is given as in the log."""
        return door.pull() if call == ("pull",) else door.turn(call[1])

    def door_behind(self, lock, gates, tolerance, log):
        door = Door(lock, gates, tolerance)
        for call in log:
            self.carry_out(door, call)
        return door

    def check_door(self, door, lock, gates, tolerance, log):
        self.assert_same(told_by(door), expected_of(lock, gates, tolerance, log))


class Examples(DoorCase):
    def test_door(self):
        self.run_examples("""
>>> from dialpack.live import Door
>>> door = Door((100, [90, 90, 90]), [3, 50, 61], 0)
>>> [door.dial, door.places, door.numbers, door.opened, door.tries, len(door)]
[0, [0, 0, 0], [0, 0, 0], False, [], 0]
>>> [door.turn(331), door.dial, door.places, door.pull(), door.tries]
[None, 331, [241, 151, 61], False, [[41, 51, 61]]]
>>> [door.would_be([-181, 143]), door.turn(-181), door.turn(143), door.pull(), door.opened]
[(293, [203, 150, 61]), None, None, True, True]
>>> [door.undo(), door.undo(), door.dial, door.places, door.opened, len(door)]
[None, None, 150, [150, 150, 61], False, 3]
>>> other = door.fork()
>>> [other == door, other.turn(143), other.numbers, door.numbers, other == door]
[True, None, [3, 50, 61], [50, 50, 61], False]
>>> other.log
[('turn', 331), ('pull',), ('turn', -181), ('turn', 143)]
""", 9)

    def test_errors(self):
        self.check_error(InvalidGates(0), Door, (100, [90]), [100], 0)
        self.check_error(InvalidTurn(""), Door((100, [90]), [5], 49).turn, 0)


class Interface(DoorCase):
    def test_is_defined_in_the_class_itself(self):
        own = vars(Door)
        arguments = {
            "__init__": ["self", "lock", "gates", "tolerance"], "turn": ["self", "amount"], "undo": ["self"],
            "pull": ["self"], "would_be": ["self", "turns"], "fork": ["self"], "__len__": ["self"],
            "__eq__": ["self", "other"],
        }
        for name, expected in arguments.items():
            self.assertEqual(list(inspect.signature(own[name]).parameters), expected)
        for name in PROPERTIES:
            self.assertIsInstance(own[name], property)

    def test_by_name(self):
        door = Door(lock=LOCK, gates=GATES, tolerance=1)
        self.assertIsNone(door.turn(amount=5))
        self.assertEqual(door.would_be(turns=[2]), (7, [0, 0, 0]))
        door.undo()
        self.assertIs(door == Door(tolerance=1, gates=GATES, lock=LOCK), True)

    def test_properties_cannot_be_set(self):
        for name in PROPERTIES:
            with self.assertRaises(AttributeError):
                setattr(Door(LOCK, GATES, 0), name, None)


class WrongArguments(DoorCase):
    def test_lock(self):
        for index, locks in WRONG_LOCKS.items():
            for lock in locks:
                with self.subTest(lock=lock):
                    self.check_error(InvalidLock(index), Door, lock, [0], 0)
                    self.check_error(InvalidLock(index), Door, lock, None, None)

    def test_gates(self):
        for index, rows in WRONG_GATES.items():
            for gates in rows:
                with self.subTest(gates=gates):
                    self.check_error(InvalidGates(index), Door, LOCK, gates, 0)
                    self.check_error(InvalidGates(index), Door, LOCK, gates, None)

    def test_tolerance(self):
        for tolerance in [*NO_INTEGERS, -1, 50, 51, 100, GREAT, -GREAT]:
            with self.subTest(tolerance=tolerance):
                self.check_error(InvalidNumber(""), Door, LOCK, GATES, tolerance)
        for ring, most in [(2, 0), (3, 1), (4, 1), (5, 2), (GREAT, GREAT // 2)]:
            self.assertIs(Door((ring, [0]), [0], most).pull(), True)
            self.check_error(InvalidNumber(""), Door, (ring, [0]), [0], most + 1)

    def test_turn(self):
        door = self.door_behind(LOCK, GATES, 0, [("turn", 5), ("pull",)])
        for amount in [*WRONG_ITEMS, [5], (5,)]:
            with self.subTest(amount=amount):
                self.check_error(InvalidTurn(""), door.turn, amount)
                self.check_door(door, LOCK, GATES, 0, [("turn", 5), ("pull",)])
        door.undo()
        self.check_door(door, LOCK, GATES, 0, [("turn", 5)])

    def test_would_be(self):
        door = self.door_behind(LOCK, GATES, 0, [("turn", 5)])
        for index, rows in WRONG_TURNS.items():
            for turns in rows:
                with self.subTest(turns=turns):
                    self.check_error(InvalidTurns(index), door.would_be, turns)
        self.check_door(door, LOCK, GATES, 0, [("turn", 5)])

    def test_nothing_to_undo(self):
        door = Door(LOCK, GATES, 0)
        self.check_error(NothingToUndo(""), door.undo)
        door.turn(7)
        door.pull()
        door.undo()
        door.undo()
        self.check_error(NothingToUndo(""), door.undo)
        self.check_door(door, LOCK, GATES, 0, [])
        door.turn(7)
        self.check_door(door, LOCK, GATES, 0, [("turn", 7)])
        self.check_error(NothingToUndo(""), Door(LOCK, GATES, 0).fork().undo)


class Calls(DoorCase):
    def test_call_by_call(self):
        rows = random.Random(26)
        for lock, gates, tolerance in [
            ((5, [2]), [3], 0), ((6, [7, 2]), [1, 2], 1), ((4, [1, 0, 2]), [0, 3, 1], 1), ((7, [3, 9]), [2, 2], 3),
        ]:
            door, log = Door(lock, gates, tolerance), []
            for _ in range(200):
                if log and rows.random() < 0.4:
                    self.assertIsNone(door.undo())
                    log.pop()
                else:
                    call = drawn_call(rows, 8)
                    answer = self.carry_out(door, call)
                    log.append(call)
                    if call == ("pull",):
                        told = expected_of(lock, gates, tolerance, log)
                        shut = len(expected_of(lock, gates, tolerance, log[:-1])["tries"]) < len(told["tries"])
                        self.assertIs(answer, not shut)
                    else:
                        self.assertIsNone(answer)
                self.check_door(door, lock, gates, tolerance, log)
            while log:
                door.undo()
                log.pop()
                self.check_door(door, lock, gates, tolerance, log)
            self.check_error(NothingToUndo(""), door.undo)

    def test_pull_moves_nothing(self):
        door = self.door_behind(LOCK, GATES, 0, [("turn", 331)])
        for many in range(1, 4):
            self.assertIs(door.pull(), False)
            self.assertEqual((door.dial, door.places, len(door)), (331, [241, 151, 61], many + 1))
            self.assertEqual(door.tries, [[41, 51, 61]] * many)
            self.assertIs(door.opened, False)

    def test_opened_as_long_as_a_pull_that_opened_stands(self):
        door = self.door_behind(LOCK, GATES, 0, [("turn", 331), ("turn", -181), ("turn", 143)])
        self.assertIs(door.opened, False)
        self.assertIs(door.pull(), True)
        door.turn(5)
        self.assertIs(door.opened, True)
        # The number of wheel 1 is as it was: the dial has not come to the end of its play.
        self.assertIs(door.pull(), False)
        self.assertEqual((door.opened, door.tries), (True, [[8, 50, 61]]))
        door.turn(-5)
        self.assertEqual((door.opened, door.numbers), (True, [8, 50, 61]))
        for expected in (True, True, True, False, False):
            door.undo()
            self.assertIs(door.opened, expected)
            self.assertEqual(door.tries, [[8, 50, 61]] if len(door) > 5 else [])

    def test_tolerance(self):
        for tolerance, opens in [(0, False), (1, False), (2, True), (49, True)]:
            door = self.door_behind(LOCK, GATES, tolerance, [("turn", 331), ("turn", -181), ("turn", 145)])
            self.assertIs(door.pull(), opens)
            self.assertEqual(door.tries, [] if opens else [[5, 50, 61]])

    def test_undo_restores_places_that_a_turn_back_would_not(self):
        door = self.door_behind(LOCK, GATES, 0, [("turn", 300)])
        door.turn(-250)
        self.assertEqual(door.places, [50, 50, 30])
        door.undo()
        self.assertEqual((door.dial, door.places), (300, [210, 120, 30]))
        door.turn(-250)
        door.turn(250)
        self.assertEqual((door.dial, door.places), (300, [210, 120, 30]))
        door.undo()
        self.assertEqual((door.dial, door.places), (50, [50, 50, 30]))

    def test_200_calls(self):
        door = Door((100, [20]), [40], 0)
        for many in range(1, 101):
            door.turn(1)
            self.assertIs(door.pull(), many == 60)
            self.assertEqual(len(door), 2 * many)
        self.assertEqual((door.dial, door.places, door.opened, len(door.tries)), (100, [80], True, 99))
        self.assertEqual(door.tries, [[max(0, many - 20)] for many in range(1, 101) if many != 60])
        for _ in range(200):
            door.undo()
        self.check_door(door, (100, [20]), [40], 0, [])

    def test_great(self):
        lock = (GREAT, [9 * HUGE, 0, 9 * HUGE])
        door = Door(lock, [GREAT - 5] * 3, 5)
        self.assertIs(door.pull(), True)
        state = pushed_back(lock, 0)
        for amount in (15 * HUGE, -GREAT, 10 ** 30 - 1, 1 - 10 ** 30, -1):
            door.turn(amount)
            state = turned_state(lock, state, [amount])
            self.assertEqual(((door.dial, door.places), door.numbers), (state, numbers_of(lock, state)))
            self.assertIs(door.pull(), is_open(lock, state, [GREAT - 5] * 3, 5))

    def test_eight_wheels(self):
        lock = (2, [1, 0] * 4)
        log = [("turn", 7), ("pull",), ("turn", -4), ("pull",), ("turn", 1)]
        self.check_door(self.door_behind(lock, [0, 1] * 4, 0, log), lock, [0, 1] * 4, 0, log)


class WouldBe(DoorCase):
    def test_changes_nothing(self):
        log = [("turn", 331), ("pull",)]
        door = self.door_behind(LOCK, GATES, 0, log)
        for turns in ([], [5], [-181, 143], [1] * 60, [HUGE, -GREAT], [-500]):
            self.check(turned_state(LOCK, (331, [241, 151, 61]), turns), door.would_be, turns)
            self.check_door(door, LOCK, GATES, 0, log)

    def test_is_what_the_turns_lead_to(self):
        door = Door(LOCK, GATES, 0)
        for amount in (331, -181, 143, -7, -500, 12):
            state = door.would_be([amount])
            door.turn(amount)
            self.assertEqual((door.dial, door.places), state)


class NewLists(DoorCase):
    def test_told_values_are_new(self):
        log = [("turn", 331), ("pull",), ("turn", -5), ("pull",)]
        door = self.door_behind(LOCK, GATES, 0, log)
        before = told_by(door)
        for name in ("places", "numbers", "tries", "log"):
            one, other = getattr(door, name), getattr(door, name)
            self.assertFalse(set(list_ids(one)) & set(list_ids(other)), name)
            self.assertEqual(len(set(list_ids(one))), len(list_ids(one)))
            for rows in lists_in(one):
                rows.clear()
            self.assert_same(told_by(door), before)
        self.check_door(door, LOCK, GATES, 0, log)

    def test_state_of_would_be_is_new(self):
        door = self.door_behind(LOCK, GATES, 0, [("turn", 331)])
        for turns in ([], [5]):
            door.would_be(turns)[1].clear()
        self.check_door(door, LOCK, GATES, 0, [("turn", 331)])
        self.check_answer_is_new(door.would_be, [])

    def test_arguments_are_not_kept(self):
        plays, gates = [90, 90, 90], [3, 50, 61]
        door = Door((100, plays), gates, 0)
        plays[0] = 0
        gates[0] = 99
        plays.append(7)
        gates.pop()
        for amount in (331, -181, 143):
            door.turn(amount)
        self.assertIs(door.pull(), True)
        turns = [5, -7]
        door.would_be(turns)
        self.assertEqual(turns, [5, -7])
        self.assertTrue(door == self.door_behind(LOCK, GATES, 0, door.log))


class Forks(DoorCase):
    def test_go_ways_of_their_own(self):
        rows = random.Random(28)
        lock, gates, tolerance = (6, [7, 2]), [1, 2], 1
        doors = [(Door(lock, gates, tolerance), [])]
        for _ in range(400):
            door, log = rows.choice(doors)
            if len(doors) < 12 and rows.random() < 0.1:
                doors.append((door.fork(), list(log)))
            elif log and rows.random() < 0.35:
                door.undo()
                log.pop()
            else:
                call = drawn_call(rows, 6)
                self.carry_out(door, call)
                log.append(call)
            for one, one_log in doors:
                self.check_door(one, lock, gates, tolerance, one_log)
                for other, other_log in doors:
                    self.assertIs(one == other, one_log == other_log)
        for door, log in doors:
            while log:
                door.undo()
                log.pop()
                self.check_door(door, lock, gates, tolerance, log)
            self.check_error(NothingToUndo(""), door.undo)

    def test_can_take_back_the_same_calls(self):
        log = [("turn", 331), ("pull",), ("turn", -181)]
        door = self.door_behind(LOCK, GATES, 0, log)
        fork = door.fork().fork()
        self.assertIsInstance(fork, Door)
        for many in (2, 1, 0):
            fork.undo()
            self.check_door(fork, LOCK, GATES, 0, log[:many])
            self.check_door(door, LOCK, GATES, 0, log)

    def test_behind_undo(self):
        door = self.door_behind(LOCK, GATES, 0, [("turn", 331), ("pull",)])
        door.undo()
        fork = door.fork()
        door.turn(5)
        fork.pull()
        self.check_door(fork, LOCK, GATES, 0, [("turn", 331), ("pull",)])
        self.check_door(door, LOCK, GATES, 0, [("turn", 331), ("turn", 5)])


class Equal(DoorCase):
    def test_each_part_counts(self):
        log = [("turn", 331), ("pull",)]
        door = self.door_behind(LOCK, GATES, 0, log)
        self.assertIs(door == door, True)
        self.assertIs(door == self.door_behind((100, [90] * 3), [3, 50, 61], 0, log), True)
        self.assertIs(door != self.door_behind(LOCK, GATES, 0, log), False)
        for other in [
            self.door_behind((101, [90, 90, 90]), GATES, 0, log), self.door_behind((100, [90, 90, 91]), GATES, 0, log),
            self.door_behind((100, [90, 90, 90, 0]), [*GATES, 0], 0, log), self.door_behind(LOCK, [3, 50, 60], 0, log),
            self.door_behind(LOCK, GATES, 1, log), self.door_behind(LOCK, GATES, 0, log[:1]),
            self.door_behind(LOCK, GATES, 0, [*log, ("pull",)]), self.door_behind(LOCK, GATES, 0, [("turn", 331)] * 2),
            self.door_behind(LOCK, GATES, 0, [("pull",), ("turn", 331)]), Door(LOCK, GATES, 0),
            # In the same state, but on another way.
            self.door_behind(LOCK, GATES, 0, [("turn", 330), ("turn", 1), ("pull",)]),
        ]:
            self.assertIs(door == other, False)
            self.assertIs(other == door, False)
            self.assertIs(door != other, True)

    def test_what_is_taken_back_does_not_count(self):
        door = self.door_behind(LOCK, GATES, 0, [("turn", 331), ("turn", 7), ("pull",)])
        door.undo()
        door.undo()
        self.assertIs(door == self.door_behind(LOCK, GATES, 0, [("turn", 331)]), True)

    def test_other_values(self):
        door = Door(LOCK, GATES, 0)
        for value in [None, 0, 1, "", "door", [], (), {}, LOCK, GATES, Door, LockError(""), object(), [door], (door,)]:
            self.assertIs(door == value, False)
            self.assertIs(value == door, False)


if __name__ == "__main__":
    unittest.main()
