"""The turns of least way to a combination, if nobody knows where the wheels are."""

from dialpack.checks import are_turns, check_dial, check_gates, check_lock
from dialpack.locks import numbers_of, pushed_back, pushed_up, reach_of
from dialpack.shortest import check_dialable, place_down, place_up, turns_ahead
from dialpack.turning import turned_state, way_of


def _nearest(ring, place, number):
    below, above = place_down(ring, place, number), place_up(ring, place, number)
    return below if place - below < above - place else above


def _turns_by(dial, stops):
    turns = []
    for stop in stops:
        if stop != dial:
            turns.append(stop - dial)
        dial = stop
    return turns


def _turns_up(lock, dial, gates):
    """Return the turns of least way in which the last wheel, wherever it was, is set by turning up."""
    # The dial has to come from the wheel's own place, or from below, to be sure that the wheel is not above it.
    wheel = len(gates)
    place = _nearest(lock[0], dial, gates[-1])
    stop = place + reach_of(lock, wheel)
    return [*_turns_by(dial, [min(place, dial), stop]), *turns_ahead(lock, gates, wheel, stop, True)]


def _turns_back(lock, dial, gates):
    """Return the turns of least way in which the last wheel, wherever it was, is set by turning back."""
    wheel = len(gates)
    reach = reach_of(lock, wheel)
    start = _nearest(lock[0], dial, (gates[-1] + reach) % lock[0])
    stop = start - reach
    return [*_turns_by(dial, [max(start, dial), stop]), *turns_ahead(lock, gates, wheel, stop, False)]


def blind_turns(lock, dial, gates):
    """Return turns of least way behind which the numbers of all wheels are the gates, whatever the state was."""
    check_lock(lock)
    check_dial(dial)
    check_gates(lock, gates)
    check_dialable(lock, gates)
    # Once the last wheel is at a known place, all of them are, pushed up or back: each has a lesser reach.
    return min([_turns_up(lock, dial, gates), _turns_back(lock, dial, gates)], key=way_of)


def blind_way(lock, dial, gates):
    """Return the least way of turns behind which the numbers of all wheels are the gates, whatever the state was."""
    return way_of(blind_turns(lock, dial, gates))


def shows_blind(lock, dial, gates, value):
    """Return whether any value is turns behind which the numbers are the gates, whatever the state was."""
    check_lock(lock)
    check_dial(dial)
    check_gates(lock, gates)
    if not are_turns(value):
        return False
    # From the two pushed states a wheel comes to its least and to its greatest place; between them it may be anywhere.
    behind = turned_state(lock, pushed_up(lock, dial), value)
    return behind == turned_state(lock, pushed_back(lock, dial), value) and numbers_of(lock, behind) == gates
