"""Where the wheels are behind turns of the dial, which ones a turn moves, and where it meets them."""

from dialpack.checks import check_lock, check_state, check_turn, check_turns


def _turned_once(lock, state, turn):
    # A wheel depends on the one ahead at its new place only, so a whole turn is one step, however long it is.
    dial, places = state
    new_dial = dial + turn
    new_places = []
    ahead = new_dial
    for play, place in zip(lock[1], places):
        ahead = max(place, ahead - play) if turn > 0 else min(place, ahead)
        new_places.append(ahead)
    return new_dial, new_places


def turned_state(lock, state, turns):
    """Return the state behind turns."""
    trail = state_trail(lock, state, turns)
    if trail:
        return trail[-1]
    dial, places = state
    return dial, list(places)


def state_trail(lock, state, turns):
    """Return the list of the states behind each of some turns."""
    check_lock(lock)
    check_state(lock, state)
    check_turns(turns)
    trail = []
    behind = state
    for turn in turns:
        behind = _turned_once(lock, behind, turn)
        trail.append(behind)
    return trail


def stops_of(dial, turns):
    """Return the list of the places of the dial behind each of some turns."""
    stops = []
    stop = dial
    for turn in turns:
        stop = stop + turn
        stops.append(stop)
    return stops


def place_at(place, reach, stops):
    """Return the place of a wheel with this reach when the dial has gone from stop to stop."""
    # The wheels ahead need not be known: the nearest place within its reach of the stop is the wheel's new one.
    for stop in stops:
        place = min(max(place, stop - reach), stop)
    return place


def way_of(turns):
    """Return how far turns move the dial in all, up and back."""
    check_turns(turns)
    return sum([abs(turn) for turn in turns])


def joined_turns(turns):
    """Return turns in which all neighbours in one direction are one turn."""
    check_turns(turns)
    joined = []
    for turn in turns:
        if joined and (joined[-1] > 0) == (turn > 0):
            joined[-1] = joined[-1] + turn
        else:
            joined.append(turn)
    return joined


def moved_wheels(lock, state, turn):
    """Return the ascending list of the wheels whose places change in one turn."""
    check_lock(lock)
    check_state(lock, state)
    check_turn(turn)
    _, new_places = _turned_once(lock, state, turn)
    return [wheel for wheel, (old, new) in enumerate(zip(state[1], new_places), start=1) if old != new]


def click_row(lock, state, turn):
    """Return the list of the clicks (dial, wheel) in one turn, in their sequence."""
    check_lock(lock)
    check_state(lock, state)
    check_turn(turn)
    dial, places = state
    clicks = []
    reach = 0
    # The dial meets no wheel ahead of those between them, so the clicks are in sequence without sorting.
    for wheel, (play, place) in enumerate(zip(lock[1], places), start=1):
        reach = reach + play
        click = place + reach if turn > 0 else place
        # The dial never moves away from a click of its direction: the distance tells whether it comes there.
        if 0 < abs(click - dial) <= abs(turn):
            clicks.append((click, wheel))
    return clicks
