"""Point 4 and the document as a whole: module against module, over drawn locks of all sizes."""

import random
import unittest

from dialpack.blind import blind_turns, blind_way, shows_blind
from dialpack.combos import can_dial, dial_count, gates_rank, nth_gates, open_state
from dialpack.console import Console
from dialpack.dialing import goal_turns, goal_way
from dialpack.effects import effect_of, same_effect, shows_telling, telling_state
from dialpack.errors import Impossible
from dialpack.hands import greatest_hand, hand_spans, off_list, shows_off, sure_open
from dialpack.live import Door
from dialpack.locks import is_open, is_state, numbers_of, pushed_back, pushed_up, reach_of
from dialpack.plays import place_behind, reaches_for, reaches_open
from dialpack.shortest import least_turns, least_way, shows_dialing
from dialpack.texts import (
    format_gates, format_lock, format_state, format_turns, parse_gates, parse_lock, parse_state, parse_turns,
)
from dialpack.tries import is_left, left_count, left_numbers, left_rank, nth_left
from dialpack.turning import joined_turns, state_trail, turned_state, way_of
from dialpack.unseen import gathered_wheels, is_gathered, must_open, wheel_spans
from tests.support import PointCase

RINGS = [2, 3, 5, 10, 100, 10 ** 9, 10 ** 28, 10 ** 29 + 7]
# Numbers in texts have at most 30 digits, so the places have to stay below that.
RINGS_FOR_TEXTS = [2, 3, 5, 10, 100, 10 ** 9, 10 ** 25 + 9]


class Drawn:
    """Locks and what belongs to them, drawn in the same way each time."""

    def __init__(self, seed, rings=RINGS):
        self.rows = random.Random(seed)
        self.rings = rings

    def lock(self):
        ring = self.rows.choice(self.rings)
        many = self.rows.randint(1, 8)
        return ring, [self.rows.choice([0, ring - 1, ring, self.rows.randint(0, 3 * ring)]) for _ in range(many)]

    def turns(self, lock, most=60):
        far = self.rows.choice([1, lock[0], 3 * lock[0]])
        return [self.rows.choice([-1, 1]) * self.rows.randint(1, far) for _ in range(self.rows.randint(0, most))]

    def state(self, lock):
        start = self.rows.choice([pushed_up, pushed_back])(lock, self.rows.randint(-2, 2) * lock[0])
        return turned_state(lock, start, self.turns(lock, 12))

    def gates(self, lock):
        return [self.rows.randrange(lock[0]) for _ in lock[1]]

    def dialed_gates(self, lock):
        return nth_gates(lock, self.rows.randrange(dial_count(lock)))

    def tolerance(self, lock):
        return self.rows.choice([0, self.rows.randint(0, (lock[0] - 1) // 2), (lock[0] - 1) // 2])


class Effects(PointCase):
    def test_equal_just_where_all_states_are_led_alike(self):
        drawn = Drawn(41)
        for _ in range(300):
            lock = drawn.lock()
            one = drawn.turns(lock, 6)
            other = drawn.rows.choice([joined_turns(one), [*one, 1, -1], drawn.turns(lock, 6), [-1, 1, *one]])
            state = drawn.state(lock)
            told = telling_state(lock, one, other)
            self.assertIs(same_effect(lock, one, other), effect_of(lock, one) == effect_of(lock, other))
            self.assertIs(told is None, same_effect(lock, one, other))
            if told is None:
                self.assertEqual(turned_state(lock, state, one), turned_state(lock, state, other))
            else:
                self.assertIs(shows_telling(lock, one, other, told), True)
                self.assertNotEqual(turned_state(lock, told, one), turned_state(lock, told, other))

    def test_effect_tells_spans_and_gathered_wheels(self):
        drawn = Drawn(42)
        for _ in range(200):
            lock, dial = drawn.lock(), drawn.rows.randint(-9, 9)
            turns = drawn.turns(lock)
            _, rows = effect_of(lock, turns)
            self.assertEqual(wheel_spans(lock, dial, None, turns), [(dial + low, dial + high) for low, high in rows])
            self.assertEqual(gathered_wheels(lock, turns), [at for at, (low, high) in enumerate(rows, 1) if low == high])


class Doors(PointCase):
    def test_has_the_state_behind_the_turns_so_far(self):
        drawn = Drawn(43)
        for _ in range(60):
            lock = drawn.lock()
            turns, gates, tolerance = drawn.turns(lock), drawn.gates(lock), drawn.tolerance(lock)
            door = Door(lock, gates, tolerance)
            start = pushed_back(lock, 0)
            self.assertEqual(door.would_be(turns), turned_state(lock, start, turns))
            for turn, state in zip(turns, state_trail(lock, start, turns)):
                door.turn(turn)
                self.assertEqual(((door.dial, door.places), door.numbers), (state, numbers_of(lock, state)))
                self.assertIs(door.pull(), is_open(lock, state, gates, tolerance))

    def test_least_turns_open_it(self):
        drawn = Drawn(44)
        for _ in range(100):
            lock = drawn.lock()
            gates = drawn.dialed_gates(lock)
            door = Door(lock, gates, 0)
            for turn in drawn.turns(lock, 8):
                door.turn(turn)
            turns = least_turns(lock, (door.dial, door.places), gates)
            self.assertEqual(numbers_of(lock, door.would_be(turns)), gates)
            other = door.fork()
            for turn in turns:
                door.turn(turn)
            self.assertIs(door.pull(), True)
            self.assertEqual(least_way(lock, (door.dial, door.places), gates), 0)
            for turn in blind_turns(lock, other.dial, gates):
                other.turn(turn)
            self.assertIs(other.pull(), True)
            self.assertEqual((door.opened, door.tries, other.opened, other.tries), (True, [], True, []))

    def test_tries_leave_what_is_left(self):
        drawn = Drawn(45)
        for _ in range(60):
            lock = drawn.lock()
            tolerance = min(1, (lock[0] - 1) // 2)
            gates = drawn.dialed_gates(lock)
            door = Door(lock, gates, tolerance)
            for _ in range(12):
                for turn in drawn.turns(lock, 3):
                    door.turn(turn)
                door.pull()
            tries = door.tries
            self.assertLessEqual(len(tries), 12)
            # The gates themselves are always left, and what was tried is not.
            self.assertIs(is_left(lock, tolerance, tries, gates), True)
            self.assertTrue(not any(is_left(lock, tolerance, tries, numbers) for numbers in tries))
            self.assertEqual(nth_left(lock, tolerance, tries, left_rank(lock, tolerance, tries, gates)), gates)
            for wheel, gate in enumerate(gates, start=1):
                found = left_numbers(lock, tolerance, tries, wheel)
                self.assertTrue(any(low <= gate <= high for low, high in found))
            self.assertLessEqual(left_count(lock, tolerance, tries), lock[0] ** len(gates))

    def test_search_among_those_that_are_left(self):
        # Who always tries the first gates that are left opens the door in the end.
        for lock, gates, tolerance in [((4, [3]), [2], 0), ((3, [2, 2]), [1, 2], 0), ((7, [9, 9]), [6, 5], 2), ((5, [0]), [4], 1)]:
            door = Door(lock, gates, tolerance)
            while not door.opened:
                self.assertLessEqual(len(door.tries), 12)
                tried = nth_left(lock, tolerance, door.tries, 0)
                for turn in least_turns(lock, (door.dial, door.places), tried):
                    door.turn(turn)
                self.assertIs(door.pull(), is_open(lock, (door.dial, door.places), gates, tolerance))


class Combinations(PointCase):
    def test_can_be_dialed_just_where_they_have_an_index(self):
        drawn = Drawn(46)
        for _ in range(300):
            lock = drawn.lock()
            gates = drawn.rows.choice([drawn.gates, drawn.dialed_gates])(lock)
            state = drawn.state(lock)
            if can_dial(lock, gates, 0):
                index = gates_rank(lock, gates)
                self.assertEqual(nth_gates(lock, index), gates)
                self.assertEqual(numbers_of(lock, turned_state(lock, state, least_turns(lock, state, gates))), gates)
                self.assertEqual(numbers_of(lock, open_state(lock, gates, 0)), gates)
                self.assertIs(shows_blind(lock, 5, gates, blind_turns(lock, 5, gates)), True)
            else:
                self.assertIsNone(open_state(lock, gates, 0))
                self.check_error(Impossible(""), gates_rank, lock, gates)
                self.check_error(Impossible(""), least_turns, lock, state, gates)
                self.check_error(Impossible(""), blind_way, lock, state[0], gates)

    def test_no_lesser_way(self):
        drawn = Drawn(47)
        for _ in range(300):
            lock = drawn.lock()
            state, other = drawn.state(lock), drawn.state(lock)
            gates = numbers_of(lock, other)
            way = least_way(lock, state, gates)
            self.assertLessEqual(way, goal_way(lock, state, other))
            self.assertIs(shows_dialing(lock, state, gates, goal_turns(lock, state, other)), True)
            behind = turned_state(lock, state, least_turns(lock, state, gates))
            # The turns to just this state are these, or others with the same way.
            self.assertEqual(goal_way(lock, state, behind), way)
            # Wherever a turn leads, the way from there is not lesser by more than the turn.
            for turn in (1, -1, *drawn.turns(lock, 5)):
                self.assertLessEqual(way, abs(turn) + least_way(lock, turned_state(lock, state, [turn]), gates))

    def test_blind_ways_are_ways_from_each_state(self):
        drawn = Drawn(48)
        for _ in range(200):
            lock = drawn.lock()
            gates = drawn.dialed_gates(lock)
            state = drawn.state(lock)
            dial = state[0]
            turns = blind_turns(lock, dial, gates)
            self.assertEqual(way_of(turns), blind_way(lock, dial, gates))
            self.assertIs(shows_dialing(lock, state, gates, turns), True)
            self.assertLessEqual(least_way(lock, state, gates), way_of(turns))
            self.assertIs(is_gathered(lock, turns), True)
            self.assertIs(must_open(lock, dial, None, turns, gates, 0), True)
            # To turn first, and then to dial from there as if nothing were known, is one way of many.
            for turn in (1, -1, *drawn.turns(lock, 5)):
                self.assertLessEqual(way_of(turns), abs(turn) + blind_way(lock, dial + turn, gates))


class Hands(PointCase):
    def test_greatest_hand(self):
        drawn = Drawn(49)
        for _ in range(150):
            lock = drawn.lock()
            state = drawn.state(lock)
            turns, tolerance = drawn.turns(lock, 20), drawn.tolerance(lock)
            gates = numbers_of(lock, turned_state(lock, state, turns))
            hand = greatest_hand(lock, state, turns, gates, tolerance)
            if hand is None:
                self.assertTrue(not turns or 2 * tolerance + 1 == lock[0])
                continue
            self.assertIs(sure_open(lock, state, turns, hand, gates, tolerance), True)
            self.assertIsNone(off_list(lock, state, turns, hand, gates, tolerance))
            offs = off_list(lock, state, turns, hand + 1, gates, tolerance)
            self.assertIs(shows_off(lock, state, turns, hand + 1, gates, tolerance, offs), True)
            self.assertGreaterEqual(hand, tolerance if len(turns) else 0)

    def test_spans_take_in_what_a_hand_does(self):
        drawn = Drawn(50)
        for _ in range(100):
            lock = drawn.lock()
            state = drawn.state(lock)
            turns, hand = drawn.turns(lock, 10), drawn.rows.randint(0, lock[0])
            spans = hand_spans(lock, state, turns, hand)
            offs = [drawn.rows.randint(-hand, hand) for _ in turns]
            exact = [turn + off - before for turn, off, before in zip(turns, offs, [0, *offs])]
            behind = turned_state(lock, state, [turn for turn in exact if turn != 0])
            self.assertTrue(all(low <= place <= high for place, (low, high) in zip(behind[1], spans)))
            gates = numbers_of(lock, turned_state(lock, state, turns))
            shut = not is_open(lock, behind, gates, 0)
            self.assertIs(shows_off(lock, state, turns, hand, gates, 0, offs), shut)


class Reaches(PointCase):
    def test_each_wheel_by_its_reach(self):
        drawn = Drawn(51)
        for _ in range(100):
            lock = drawn.lock()
            turns, tolerance = drawn.turns(lock), drawn.tolerance(lock)
            _, places = turned_state(lock, pushed_back(lock, 0), turns)
            for wheel, place in enumerate(places, start=1):
                reach = reach_of(lock, wheel)
                self.assertEqual(place_behind(reach, turns), place)
                self.assertTrue(any(low <= reach <= high for low, high in reaches_for(turns, place, reach)))
                found = reaches_open(lock[0], turns, place % lock[0], tolerance, reach)
                self.assertEqual(found[-1][1], reach)


class Texts(PointCase):
    def test_values_that_functions_return(self):
        drawn = Drawn(52, RINGS_FOR_TEXTS)
        for _ in range(100):
            lock = drawn.lock()
            state, gates = drawn.state(lock), drawn.dialed_gates(lock)
            self.assert_same(parse_lock(format_lock(lock)), lock)
            for one in (state, open_state(lock, gates, 0), pushed_up(lock, 7), Door(lock, gates, 0).would_be([5])):
                self.assert_same(parse_state(lock, format_state(one)), one)
            for turns in (
                goal_turns(lock, state, open_state(lock, gates, 0)), least_turns(lock, state, gates),
                blind_turns(lock, state[0], gates), joined_turns(drawn.turns(lock)), drawn.turns(lock),
            ):
                self.assert_same(parse_turns(format_turns(turns)), turns)
            for numbers in (gates, numbers_of(lock, state), nth_left(lock, 0, [gates], 0)):
                self.assert_same(parse_gates(lock, format_gates(numbers)), numbers)

    def test_console_is_a_door(self):
        drawn = Drawn(53, RINGS_FOR_TEXTS)
        for _ in range(40):
            lock = drawn.lock()
            gates, tolerance = drawn.dialed_gates(lock), drawn.tolerance(lock)
            door, console = Door(lock, gates, tolerance), Console()
            for command in (f"lock {format_lock(lock)}", f"gates {format_gates(gates)}", f"tolerance {tolerance}"):
                self.assertEqual(console.execute(command), "ok")
            for turn in drawn.turns(lock, 20):
                door.turn(turn)
                self.assertEqual(console.execute(f"turns {format_turns([turn])}"), "ok")
                self.assertEqual(console.execute("pull"), "open" if door.pull() else "shut")
                self.assertEqual(console.execute("numbers"), format_gates(door.numbers))
            state = parse_state(lock, console.execute("state"))
            self.assertEqual(state, (door.dial, door.places))
            self.assertIs(is_state(lock, state), True)
            self.assertEqual(console.execute("way"), str(least_way(lock, state, gates)))
            if console.execute("dial") != "none":
                self.assertEqual(console.execute("turns " + console.execute("dial")), "ok")
            self.assertEqual(console.execute("pull"), "open")
            self.assertEqual(console.execute("dial"), "none")


class Rings(PointCase):
    def test_all_numbers_so_many_times_as_great(self):
        drawn = Drawn(54)
        many = 10 ** 20 + 9
        for _ in range(100):
            ring = drawn.rows.choice([2, 3, 5, 10, 100])
            plays = [drawn.rows.randint(0, 2 * ring) for _ in range(drawn.rows.randint(1, 6))]
            lock, great = (ring, plays), (ring * many, [play * many for play in plays])
            state, gates = drawn.state(lock), drawn.dialed_gates(lock)
            great_state = (state[0] * many, [place * many for place in state[1]])
            great_gates = [gate * many for gate in gates]
            self.assertEqual(least_way(great, great_state, great_gates), many * least_way(lock, state, gates))
            self.assertEqual(blind_way(great, state[0] * many, great_gates), many * blind_way(lock, state[0], gates))


if __name__ == "__main__":
    unittest.main()
