"""Point 23: a single wheel, and the reaches with which it is at a place or in its gate."""

import random
import unittest

from dialpack.errors import InvalidDial, InvalidNumber, InvalidTurns
from dialpack.locks import is_open, reach_of
from dialpack.plays import place_behind, reaches_for, reaches_open
from dialpack.turning import turned_state
from tests.support import NO_INTEGERS, PointCase
from tests.test_combos import near, stretches_of
from tests.test_effects import SOME_TURNS, led_unit_by_unit
from tests.test_locks import LOCK
from tests.test_turning import GREAT, HUGE, WRONG_TURNS

TURNS = [300, -100]
NO_REACHES = [*NO_INTEGERS, -1, -2, -GREAT]
MORE_TURNS = [
    [6, -3, 4, -2, 3, -1], [-6, 3, -4, 2, -3, 1], [1, -2, 3, -4, 5, -6], [-1, 2, -3, 4, -5, 6], [9, -1, -1, -1, 2, -5, 8],
    [4, -4, 4, -4], [-2, -2, 7, -3, 3, -8, 1], [12, -5, 2, -1, 2, -6, 3], [-3, 12, -7, 4, -9, 2], [1] * 7, [-1] * 7,
]


def places_unit_by_unit(turns, most):
    """The place behind the turns for each reach from 0 to most, by a lock with this one play."""
    return [led_unit_by_unit((2, [reach]), (0, [0]), turns)[1][0] for reach in range(most + 1)]


class Examples(PointCase):
    def test_plays(self):
        self.run_examples("""
>>> from dialpack.plays import place_behind, reaches_for, reaches_open
>>> [place_behind(reach, [300, -100]) for reach in (0, 90, 100, 150, 10 ** 29)]
[200, 200, 200, 150, 0]
>>> [reaches_for([300, -100], place, 400) for place in (200, 150, 0, 210)]
[[(0, 100)], [(150, 150)], [(300, 400)], []]
>>> [reaches_open(100, [300, -100], gate, 2, 400) for gate in (50, 0)]
[[(148, 152), (248, 252)], [(0, 102), (198, 202), (298, 400)]]
""", 4)


class WrongArguments(PointCase):
    def test_reach(self):
        for reach in NO_REACHES:
            with self.subTest(reach=reach):
                self.check_error(InvalidNumber(""), place_behind, reach, TURNS)

    def test_turns(self):
        for index, rows in WRONG_TURNS.items():
            for turns in rows:
                with self.subTest(turns=turns):
                    self.check_error(InvalidTurns(index), place_behind, 0, turns)
                    self.check_error(InvalidTurns(index), reaches_for, turns, 0, 0)
                    self.check_error(InvalidTurns(index), reaches_open, 100, turns, 0, 0, 0)

    def test_place(self):
        for place in NO_INTEGERS:
            with self.subTest(place=place):
                self.check_error(InvalidDial(""), reaches_for, TURNS, place, 400)

    def test_most(self):
        for most in NO_REACHES:
            with self.subTest(most=most):
                self.check_error(InvalidNumber(""), reaches_for, TURNS, 200, most)
                self.check_error(InvalidNumber(""), reaches_open, 100, TURNS, 0, 2, most)
                self.check_error(InvalidNumber(""), reaches_open, 5, TURNS, 0, 2, most)

    def test_ring(self):
        for ring in [*NO_INTEGERS, 1, 0, -1, -2, -100, -GREAT]:
            with self.subTest(ring=ring):
                self.check_error(InvalidNumber(""), reaches_open, ring, TURNS, 0, 0, 400)
                # The ring stands ahead of the turns.
                self.check_error(InvalidNumber(""), reaches_open, ring, None, 0, 0, 400)

    def test_gate(self):
        for gate in [*NO_INTEGERS, -1, 100, 101, GREAT, -GREAT]:
            with self.subTest(gate=gate):
                self.check_error(InvalidNumber(""), reaches_open, 100, TURNS, gate, 0, 400)
                self.check_error(InvalidTurns(0), reaches_open, 100, [0], gate, 0, 400)

    def test_tolerance(self):
        for tolerance in [*NO_INTEGERS, -1, 50, 51, 100, GREAT, -GREAT]:
            with self.subTest(tolerance=tolerance):
                self.check_error(InvalidNumber(""), reaches_open, 100, TURNS, 0, tolerance, 400)
        for ring, most in [(2, 0), (3, 1), (4, 1), (5, 2), (GREAT, GREAT // 2)]:
            self.check([(0, 0)], reaches_open, ring, [], 0, most, 0)
            self.check_error(InvalidNumber(""), reaches_open, ring, [], 0, most + 1, 0)


class Places(PointCase):
    def test_unit_by_unit(self):
        for turns in [*SOME_TURNS, *MORE_TURNS]:
            places = places_unit_by_unit(turns, 25)
            self.assert_same([place_behind(reach, turns) for reach in range(26)], places)

    def test_is_that_of_a_wheel_in_a_lock(self):
        for turns in [[300, -100], [-39, 269, -127], [331, -181, 143], [5]]:
            behind = turned_state(LOCK, (0, [0, 0, 0]), turns)
            self.assertEqual([place_behind(reach_of(LOCK, wheel), turns) for wheel in (1, 2, 3)], behind[1])

    def test_edges(self):
        self.check(0, place_behind, 0, [])
        self.check(0, place_behind, GREAT, [])
        self.check(0, place_behind, 7, [7])
        self.check(1, place_behind, 6, [7])
        self.check(-7, place_behind, GREAT, [-7])
        self.check(40, place_behind, 20, [1] * 60)
        self.check(HUGE, place_behind, GREAT - HUGE, [GREAT, -5])
        self.check(0, place_behind, GREAT, [GREAT, -5])


class ForOnePlace(PointCase):
    def test_all_reaches(self):
        for turns in [*SOME_TURNS, *MORE_TURNS]:
            places = places_unit_by_unit(turns, 25)
            for most in (0, 1, 4, 9, 25):
                for place in range(min(places) - 3, max(places) + 4):
                    reaches = [reach for reach in range(most + 1) if places[reach] == place]
                    with self.subTest(turns=turns, place=place, most=most):
                        self.assert_same(reaches_for(turns, place, most), stretches_of(reaches))

    def test_places_beside_those_that_are_reached(self):
        self.check([(0, 100)], reaches_for, TURNS, 200, 400)
        self.check([(101, 101)], reaches_for, TURNS, 199, 400)
        self.check([], reaches_for, TURNS, 201, 400)
        self.check([(299, 299)], reaches_for, TURNS, 1, 400)
        self.check([(300, 400)], reaches_for, TURNS, 0, 400)
        self.check([], reaches_for, TURNS, -1, 400)

    def test_most(self):
        self.check([(0, 0)], reaches_for, TURNS, 200, 0)
        self.check([], reaches_for, TURNS, 199, 0)
        self.check([(0, 99)], reaches_for, TURNS, 200, 99)
        self.check([], reaches_for, TURNS, 150, 149)
        self.check([(150, 150)], reaches_for, TURNS, 150, 150)
        self.check([], reaches_for, TURNS, 0, 299)
        self.check([(300, 300)], reaches_for, TURNS, 0, 300)

    def test_no_turns(self):
        self.check([(0, 7)], reaches_for, [], 0, 7)
        self.check([], reaches_for, [], 1, 7)
        self.check([], reaches_for, [], -1, 7)

    def test_sixty(self):
        self.check([(20, 20)], reaches_for, [1] * 60, 40, 400)
        self.check([(60, 400)], reaches_for, [1] * 60, 0, 400)
        self.check([(0, 400)], reaches_for, [-1] * 60, -60, 400)
        turns = [amount if amount % 2 else -amount for amount in range(60, 0, -1)]
        places = places_unit_by_unit(turns, 70)
        for place in range(-65, 65):
            self.check(stretches_of([reach for reach in range(71) if places[reach] == place]), reaches_for, turns, place, 70)

    def test_great(self):
        turns = [300 * HUGE, -100 * HUGE]
        self.check([(0, 100 * HUGE)], reaches_for, turns, 200 * HUGE, 400 * HUGE)
        self.check([(100 * HUGE + 1, 100 * HUGE + 1)], reaches_for, turns, 200 * HUGE - 1, 400 * HUGE)
        self.check([(300 * HUGE, 10 ** 35)], reaches_for, turns, 0, 10 ** 35)
        self.check([], reaches_for, turns, 200 * HUGE + 1, 400 * HUGE)


class InItsGate(PointCase):
    def test_all_reaches(self):
        for turns in [*SOME_TURNS, *MORE_TURNS]:
            places = places_unit_by_unit(turns, 25)
            for ring in range(2, 8):
                for tolerance in range((ring - 1) // 2 + 1):
                    for gate in range(ring):
                        reaches = [reach for reach in range(26) if near(ring, places[reach], gate, tolerance)]
                        with self.subTest(turns=turns, ring=ring, gate=gate, tolerance=tolerance):
                            self.assert_same(reaches_open(ring, turns, gate, tolerance, 25), stretches_of(reaches))

    def test_most(self):
        turns = [6, -3, 4, -2, 3, -1]
        places = places_unit_by_unit(turns, 20)
        for most in range(21):
            for gate in range(4):
                reaches = [reach for reach in range(most + 1) if near(4, places[reach], gate, 1)]
                self.check(stretches_of(reaches), reaches_open, 4, turns, gate, 1, most)
        self.check([(0, 0)], reaches_open, 100, TURNS, 0, 2, 0)
        self.check([], reaches_open, 100, TURNS, 50, 2, 0)

    def test_tolerance_0_and_the_greatest_one(self):
        self.check([(150, 150), (250, 250)], reaches_open, 100, TURNS, 50, 0, 400)
        self.check([(0, 100), (200, 200), (300, 400)], reaches_open, 100, TURNS, 0, 0, 400)
        # Of the ring of 100 the greatest tolerance leaves one number out, of the ring of 101 none.
        self.check([(0, 149), (151, 249), (251, 400)], reaches_open, 100, TURNS, 0, 49, 400)
        self.check([(0, 400)], reaches_open, 101, TURNS, 7, 50, 400)
        self.check([(0, 0)], reaches_open, 101, TURNS, 7, 50, 0)
        self.check([(0, 10 ** 29)], reaches_open, GREAT, [HUGE], 7, GREAT // 2, 10 ** 29)

    def test_a_hundred_rings(self):
        found = self.call(reaches_open, 100, [10000], 3, 2, 10000)
        self.assertEqual(found, [(100 * ring + 95, 100 * ring + 99) for ring in range(100)])
        great = self.call(reaches_open, 100 * HUGE, [10000 * HUGE], 3 * HUGE, 2 * HUGE, 10000 * HUGE)
        self.assertEqual(great, [(least * HUGE, greatest * HUGE) for least, greatest in found])
        # The play is never used up, so the place stays for all reaches.
        self.check([(0, 10000)], reaches_open, 100, [-3], 97, 0, 10000)
        self.check([], reaches_open, 100, [-3], 96, 0, 10000)

    def test_sixty(self):
        rows = random.Random(23)
        for _ in range(20):
            turns = [rows.choice([-1, 1]) * rows.randint(1, 30) for _ in range(60)]
            places = places_unit_by_unit(turns, 120)
            reaches = [reach for reach in range(121) if near(11, places[reach], 4, 2)]
            self.check(stretches_of(reaches), reaches_open, 11, turns, 4, 2, 120)

    def test_is_open_with_just_these(self):
        rows = random.Random(24)
        for _ in range(40):
            ring = rows.choice([GREAT, HUGE, 1000])
            turns = [rows.choice([-1, 1]) * rows.randint(1, 5 * ring) for _ in range(rows.randint(1, 60))]
            gate, tolerance, most = rows.randrange(ring), rows.randrange(ring // 2 - 1), rows.randint(0, 9 * ring)
            found = reaches_open(ring, turns, gate, tolerance, most)
            # One stretch behind another one, and at least one reach between them.
            self.assertTrue(all(one[1] + 1 < other[0] for one, other in zip(found, found[1:])))
            edges = [reach for least, greatest in found for reach in (least - 1, least, greatest, greatest + 1)]
            for reach in [0, most, *edges, *[rows.randint(0, most) for _ in range(20)]]:
                if 0 <= reach <= most:
                    state = turned_state((ring, [reach]), (0, [0]), turns)
                    told = any(least <= reach <= greatest for least, greatest in found)
                    self.assertIs(is_open((ring, [reach]), state, [gate], tolerance), told)

    def test_answer_is_new(self):
        self.check_answer_is_new(reaches_for, TURNS, 200, 400)
        self.check_answer_is_new(reaches_open, 100, TURNS, 0, 2, 400)


if __name__ == "__main__":
    unittest.main()
