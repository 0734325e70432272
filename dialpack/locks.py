"""Locks, the states of their wheels, and when a state is open."""

from dialpack.checks import check_dial, check_gates, check_lock, check_state, check_tolerance, check_wheel
from dialpack.errors import InvalidLock, InvalidState


def is_lock(value):
    """Return whether any value is a lock."""
    try:
        check_lock(value)
    except InvalidLock:
        return False
    return True


def reach_of(lock, wheel):
    """Return how far a wheel can be behind the dial."""
    check_lock(lock)
    check_wheel(lock, wheel)
    return sum(lock[1][:wheel])


def is_state(lock, value):
    """Return whether any value is a state of a lock."""
    check_lock(lock)
    try:
        check_state(lock, value)
    except InvalidState:
        return False
    return True


def numbers_of(lock, state):
    """Return the list of the numbers of all wheels."""
    check_lock(lock)
    check_state(lock, state)
    ring = lock[0]
    return [place % ring for place in state[1]]


def pushed_up(lock, dial):
    """Return the state with this dial in which each wheel is behind the dial by its reach."""
    check_lock(lock)
    check_dial(dial)
    places = []
    ahead = dial
    for play in lock[1]:
        ahead = ahead - play
        places.append(ahead)
    return dial, places


def pushed_back(lock, dial):
    """Return the state with this dial in which all wheels are at the dial's place."""
    check_lock(lock)
    check_dial(dial)
    return dial, [dial] * len(lock[1])


def in_gate(ring, place, gate, tolerance):
    """Return whether a wheel at this place is in its gate."""
    off = (place - gate) % ring
    return off <= tolerance or off >= ring - tolerance


def takes_ring(ring, tolerance):
    """Return whether every place is in every gate with this tolerance."""
    return 2 * tolerance == ring - 1


def stays_in_gate(ring, stretch, gate, tolerance):
    """Return whether a wheel is in its gate at all places of a stretch."""
    # Where a gate takes up the whole ring, a stretch over its end is still in the gate.
    if takes_ring(ring, tolerance):
        return True
    least, greatest = stretch
    return (least - gate + tolerance) % ring + greatest - least <= 2 * tolerance


def is_open(lock, state, gates, tolerance):
    """Return whether all wheels are in their gates."""
    check_lock(lock)
    check_state(lock, state)
    check_gates(lock, gates)
    ring = lock[0]
    check_tolerance(ring, tolerance)
    return all([in_gate(ring, place, gate, tolerance) for place, gate in zip(state[1], gates)])
