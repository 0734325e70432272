"""The turns of least way from a state to a combination."""

from dialpack.checks import are_turns, check_gates, check_lock, check_state
from dialpack.combos import can_dial
from dialpack.errors import Impossible
from dialpack.locks import numbers_of, reach_of
from dialpack.turning import turned_state, way_of


def check_dialable(lock, gates):
    """Raise Impossible if no state of the lock has the gates as its numbers."""
    if not can_dial(lock, gates, 0):
        raise Impossible("no state of the lock has these numbers")


def place_up(ring, place, number):
    """Return the least place from a place on that has this number."""
    return place + (number - place) % ring


def place_down(ring, place, number):
    """Return the greatest place up to a place that has this number."""
    return place - (place - number) % ring


def turns_ahead(lock, gates, wheel, dial, up):
    """Return the turns of least way that set all wheels ahead of one that is set, and do not meet this one.

    The dial pushes all of them when the turns begin: up if `up` is true, otherwise back.
    """
    # A wheel that is pushed up has the greatest place that the one behind it allows, so only a turn back can set it,
    # and the other way round. No place but the nearest one is worth a way: all else is the same a ring farther, and
    # a wheel that is in its gate already is left standing by any turn that sets those ahead of it.
    ring = lock[0]
    turns = []
    for ahead in range(wheel - 1, 0, -1):
        reach = reach_of(lock, ahead)
        place = dial - reach if up else dial
        if place % ring != gates[ahead - 1]:
            stop = place_down(ring, place, gates[ahead - 1]) if up else place_up(ring, place, gates[ahead - 1]) + reach
            turns.append(stop - dial)
            dial = stop
            up = not up
    return turns


def _turns_from(lock, state, gates, wheel):
    """Return lists of turns that set this wheel and all ahead of it, and leave those behind it where they stand.

    One of the lists has the least way of all such turns that move this wheel.
    """
    ring, plays = lock
    dial, places = state
    place, gate = places[wheel - 1], gates[wheel - 1]
    below, above = place_down(ring, place - 1, gate), place_up(ring, place + 1, gate)
    last = wheel == len(plays)
    found = []
    if last or below >= places[wheel]:
        found.append([below - dial, *turns_ahead(lock, gates, wheel, below, False)])
    if last or above <= places[wheel] + plays[wheel]:
        stop = above + reach_of(lock, wheel)
        found.append([stop - dial, *turns_ahead(lock, gates, wheel, stop, True)])
    return found


def least_turns(lock, state, gates):
    """Return turns of least way that lead from a state to one in which the numbers of all wheels are the gates."""
    check_lock(lock)
    check_state(lock, state)
    check_gates(lock, gates)
    check_dialable(lock, gates)
    numbers = numbers_of(lock, state)
    found = []
    # Some wheel is the last one that moves at all. All those behind it are in their gates.
    for wheel in range(len(gates), 0, -1):
        found.extend(_turns_from(lock, state, gates, wheel))
        if numbers[wheel - 1] != gates[wheel - 1]:
            return min(found, key=way_of)
    return []


def least_way(lock, state, gates):
    """Return the least way from a state to one in which the numbers of all wheels are the gates."""
    return way_of(least_turns(lock, state, gates))


def shows_dialing(lock, state, gates, value):
    """Return whether any value is turns that lead from a state to one in which the numbers are the gates."""
    check_lock(lock)
    check_state(lock, state)
    check_gates(lock, gates)
    return are_turns(value) and numbers_of(lock, turned_state(lock, state, value)) == gates
