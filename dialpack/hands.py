"""What a hand that does not hit the stops exactly does to the wheels, and how far off it may be."""

from dialpack.checks import (
    check_at_least, check_gates, check_lock, check_state, check_tolerance, check_turns, is_within,
)
from dialpack.errors import Impossible
from dialpack.locks import in_gate, reach_of, stays_in_gate, takes_ring
from dialpack.turning import place_at, stops_of


def _place_behind(lock, state, wheel, stops):
    return place_at(state[1][wheel - 1], reach_of(lock, wheel), stops)


def _wheel_span(lock, state, wheel, stops, hand):
    # No stop that is less leads a wheel to a greater place, so the ends are where all stops are off by the most.
    least = _place_behind(lock, state, wheel, [stop - hand for stop in stops])
    greatest = _place_behind(lock, state, wheel, [stop + hand for stop in stops])
    return least, greatest


def _spans(lock, state, turns, hand):
    stops = stops_of(state[0], turns)
    return [_wheel_span(lock, state, wheel, stops, hand) for wheel in range(1, len(lock[1]) + 1)]


def _is_sure(lock, state, turns, hand, gates, tolerance):
    spans = _spans(lock, state, turns, hand)
    return all([stays_in_gate(lock[0], span, gate, tolerance) for span, gate in zip(spans, gates)])


def _check_hand(lock, state, turns, hand):
    check_lock(lock)
    check_state(lock, state)
    check_turns(turns)
    check_at_least(hand, 0)


def _check_opening(lock, state, turns, hand, gates, tolerance):
    _check_hand(lock, state, turns, hand)
    check_gates(lock, gates)
    check_tolerance(lock[0], tolerance)


def hand_spans(lock, state, turns, hand):
    """Return the list with the stretch of each wheel's places behind the turns, for all offs."""
    _check_hand(lock, state, turns, hand)
    return _spans(lock, state, turns, hand)


def sure_open(lock, state, turns, hand, gates, tolerance):
    """Return whether the state behind the turns is open for all offs."""
    _check_opening(lock, state, turns, hand, gates, tolerance)
    return _is_sure(lock, state, turns, hand, gates, tolerance)


def greatest_hand(lock, state, turns, gates, tolerance):
    """Return the greatest hand for which the state behind the turns is open for all offs, None if all hands are."""
    if not sure_open(lock, state, turns, 0, gates, tolerance):
        raise Impossible("the state behind the turns is not open even with the hand 0")
    ring, plays = lock
    if not turns or takes_ring(ring, tolerance):
        return None
    # The last stop alone takes wheel 1 to two places that are at least twice the hand less its play apart.
    sure, unsure = 0, tolerance + plays[0] + 1
    while unsure - sure > 1:
        middle = (sure + unsure) // 2
        if _is_sure(lock, state, turns, middle, gates, tolerance):
            sure = middle
        else:
            unsure = middle
    return sure


def _first_out(ring, place, gate, tolerance):
    """Return the first place from a place on at which a wheel is not in its gate."""
    into = (place - gate + tolerance) % ring
    return place + 2 * tolerance + 1 - into if into <= 2 * tolerance else place


def _off_to(lock, state, wheel, stops, hand, place):
    """Return the off that, if it is the same at all stops, leads a wheel to a place of its span."""
    # If all stops are one more, the wheel's place is the same or one more, so this off can be searched by halves.
    least, greatest = -hand, hand
    while least < greatest:
        middle = (least + greatest) // 2
        if _place_behind(lock, state, wheel, [stop + middle for stop in stops]) < place:
            least = middle + 1
        else:
            greatest = middle
    return least


def off_list(lock, state, turns, hand, gates, tolerance):
    """Return a list of offs with which the state behind the turns is not open, None if there is none."""
    _check_opening(lock, state, turns, hand, gates, tolerance)
    ring = lock[0]
    stops = stops_of(state[0], turns)
    for wheel, gate in enumerate(gates, start=1):
        span = _wheel_span(lock, state, wheel, stops, hand)
        if not stays_in_gate(ring, span, gate, tolerance):
            out = _first_out(ring, span[0], gate, tolerance)
            return [_off_to(lock, state, wheel, stops, hand, out)] * len(turns)
    return None


def shows_off(lock, state, turns, hand, gates, tolerance, value):
    """Return whether any value is a list of offs with which the state behind the turns is not open."""
    _check_opening(lock, state, turns, hand, gates, tolerance)
    if not isinstance(value, list) or len(value) != len(turns):
        return False
    if not all([is_within(off, -hand, hand) for off in value]):
        return False
    stops = [stop + off for stop, off in zip(stops_of(state[0], turns), value)]
    places = [_place_behind(lock, state, wheel, stops) for wheel in range(1, len(gates) + 1)]
    return not all([in_gate(lock[0], place, gate, tolerance) for place, gate in zip(places, gates)])
