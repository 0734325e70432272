"""What reach a single wheel has, told by where turns leave it: the wheel and the dial are at 0 ahead of the turns."""

from dialpack.checks import LEAST_RING, check_at_least, check_dial, check_number, check_tolerance, check_turns
from dialpack.locks import takes_ring
from dialpack.turning import place_at, stops_of


def place_behind(reach, turns):
    """Return the place of the wheel behind the turns if it has this reach."""
    check_at_least(reach, 0)
    check_turns(turns)
    return place_at(0, reach, stops_of(0, turns))


def _corners(turns):
    """Return the corners (reach, place) of the line that gives the place behind the turns for each reach.

    From a corner to the next one the place stays, or it falls by one with each unit of reach. Behind the last one it
    stays.
    """
    # A turn up moves the wheel for all reaches less than some reach, and so does a turn back: place + reach never falls
    # with the reach, place never rises. So a turn cuts off the first corners, and the line begins at the stop.
    corners = [(0, 0)]
    for turn, stop in zip(turns, stops_of(0, turns)):
        kept = [(reach, place) for reach, place in corners if (reach + place >= stop if turn > 0 else place <= stop)]
        last_reach, last_place = corners[len(corners) - len(kept) - 1]
        begun = [(0, stop)]
        if turn > 0:
            begun.append((stop - last_place, last_place))
        elif kept:
            begun.append((last_reach + last_place - stop, stop))
        corners = begun + kept
    return corners


def _reaches_between(corners, least, greatest, most):
    """Return the list of the one stretch of reaches up to most with a place from least to greatest, or of none."""
    firsts = [max(0, reach - greatest + place) for reach, place in corners if place <= greatest]
    lasts = [reach + place - least for reach, place in corners if place >= least]
    if not firsts or not lasts:
        return []
    last = most if len(lasts) == len(corners) else min(lasts[-1], most)
    return [(firsts[0], last)] if firsts[0] <= last else []


def reaches_for(turns, place, most):
    """Return the list of stretches of the reaches from 0 to most with which the wheel is at a place."""
    check_turns(turns)
    check_dial(place)
    check_at_least(most, 0)
    return _reaches_between(_corners(turns), place, place, most)


def reaches_open(ring, turns, gate, tolerance, most):
    """Return the list of stretches of the reaches from 0 to most with which the wheel is in its gate."""
    check_at_least(ring, LEAST_RING)
    check_turns(turns)
    check_number(gate, ring - 1)
    check_tolerance(ring, tolerance)
    check_at_least(most, 0)
    if takes_ring(ring, tolerance):
        return [(0, most)]
    corners = _corners(turns)
    # The places fall with the reach from the dial's own one on, so the gates are met in falling sequence.
    highest, lowest = corners[0][1], place_behind(most, turns)
    first = highest - (highest - gate + tolerance) % ring
    found = []
    for least in range(first, lowest - 2 * tolerance - 1, -ring):
        found.extend(_reaches_between(corners, least, least + 2 * tolerance, most))
    return found
