"""Tells what the values of all modules are, and raises the errors of those that are not.

A check of a state, of spans, of gates, of tries or of a wheel takes a lock that is checked already.
"""

from dialpack.errors import (
    InvalidDial, InvalidGates, InvalidLock, InvalidNumber, InvalidSpans, InvalidState, InvalidTries, InvalidTurn,
    InvalidTurns, InvalidWheel,
)

LEAST_RING = 2
MOST_WHEELS = 8
MOST_TURNS = 60
MOST_TRIES = 12


def is_integer(value):
    # To Python True and False are ints; here they are no integers.
    return isinstance(value, int) and not isinstance(value, bool)


def is_at_least(value, least):
    return is_integer(value) and value >= least


def is_within(value, least, greatest):
    return is_integer(value) and least <= value <= greatest


def is_turn(value):
    return is_integer(value) and value != 0


def is_pair(value):
    return isinstance(value, tuple) and len(value) == 2


def is_span(value):
    return is_pair(value) and is_integer(value[0]) and is_integer(value[1]) and value[0] <= value[1]


def are_plays(value):
    if not isinstance(value, list) or not 1 <= len(value) <= MOST_WHEELS:
        return False
    return all([is_at_least(play, 0) for play in value])


def are_places(plays, dial, value):
    if not isinstance(value, list) or len(value) != len(plays):
        return False
    ahead = dial
    for play, place in zip(plays, value):
        if not is_integer(place) or not 0 <= ahead - place <= play:
            return False
        ahead = place
    return True


def are_turns(value):
    return isinstance(value, list) and len(value) <= MOST_TURNS and all([is_turn(turn) for turn in value])


def are_numbers(lock, value):
    ring, plays = lock
    if not isinstance(value, list) or len(value) != len(plays):
        return False
    return all([is_within(number, 0, ring - 1) for number in value])


def check_lock(lock):
    if not is_pair(lock):
        raise InvalidLock(None)
    ring, plays = lock
    if not is_at_least(ring, LEAST_RING):
        raise InvalidLock(0)
    if not are_plays(plays):
        raise InvalidLock(1)


def check_wheel(lock, wheel):
    if not is_within(wheel, 1, len(lock[1])):
        raise InvalidWheel("the wheel must be an integer from 1 to the number of wheels")


def check_state(lock, state):
    if not is_pair(state):
        raise InvalidState(None)
    dial, places = state
    if not is_integer(dial):
        raise InvalidState(0)
    if not are_places(lock[1], dial, places):
        raise InvalidState(1)


def check_dial(dial):
    if not is_integer(dial):
        raise InvalidDial("the dial must be an integer")


def check_spans(lock, spans):
    # No spans at all are None: nothing is known of the wheels.
    if spans is None:
        return
    if not isinstance(spans, list) or len(spans) != len(lock[1]):
        raise InvalidSpans(None)
    for index, span in enumerate(spans):
        if not is_span(span):
            raise InvalidSpans(index)


def check_turn(turn):
    if not is_turn(turn):
        raise InvalidTurn("the turn must be an integer other than 0")


def check_turns(turns):
    if not isinstance(turns, list) or len(turns) > MOST_TURNS:
        raise InvalidTurns(None)
    for index, turn in enumerate(turns):
        if not is_turn(turn):
            raise InvalidTurns(index)


def check_gates(lock, gates):
    ring, plays = lock
    if not isinstance(gates, list) or len(gates) != len(plays):
        raise InvalidGates(None)
    for index, gate in enumerate(gates):
        if not is_within(gate, 0, ring - 1):
            raise InvalidGates(index)


def check_number(number, greatest):
    if not is_within(number, 0, greatest):
        raise InvalidNumber("the number must be an integer from 0 to the greatest one that is possible")


def check_at_least(number, least):
    if not is_at_least(number, least):
        raise InvalidNumber("the number must be an integer from the least one that is possible on")


def check_tolerance(ring, tolerance):
    if not is_within(tolerance, 0, (ring - 1) // 2):
        raise InvalidNumber("the tolerance must be an integer from 0 to (ring - 1) // 2")


def check_tries(lock, tries):
    if not isinstance(tries, list) or len(tries) > MOST_TRIES:
        raise InvalidTries(None)
    for index, numbers in enumerate(tries):
        if not are_numbers(lock, numbers):
            raise InvalidTries(index)
