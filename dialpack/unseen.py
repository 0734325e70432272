"""What is known of wheels that nobody sees, while the dial is at a known place."""

from dialpack.checks import check_dial, check_gates, check_lock, check_spans, check_tolerance, check_turns
from dialpack.effects import effect_of
from dialpack.errors import Impossible
from dialpack.locks import is_open, is_state, pushed_back, pushed_up, stays_in_gate, takes_ring
from dialpack.turning import turned_state


def _common(one, other):
    # Stretches ascend, and so do their common parts.
    return [
        (max(low, least), min(high, greatest))
        for low, high in one for least, greatest in other if max(low, least) <= min(high, greatest)
    ]


def _widened(stretches, below, above):
    wide = []
    for least, greatest in stretches:
        if wide and least - below <= wide[-1][1] + 1:
            wide[-1] = (wide[-1][0], greatest + above)
        else:
            wide.append((least - below, greatest + above))
    return wide


def _possible_places(lock, dial, allowed):
    """Return the stretches of the places that each wheel has in the states that keep all wheels to allowed stretches.

    If there is no such state, no wheel has any.
    """
    plays = lock[1]
    rows = []
    ahead = [(dial, dial)]
    for play, own in zip(plays, allowed):
        ahead = _common(own, _widened(ahead, play, 0))
        rows.append(ahead)
    # So far the wheels ahead limit each wheel; now the wheels behind it do, too.
    for wheel in range(len(plays) - 1, 0, -1):
        rows[wheel - 1] = _common(rows[wheel - 1], _widened(rows[wheel], 0, plays[wheel]))
    return rows


def _fitting_stretches(lock, dial, spans):
    if spans is None:
        spans = list(zip(pushed_up(lock, dial)[1], pushed_back(lock, dial)[1]))
    rows = _possible_places(lock, dial, [[span] for span in spans])
    if not rows[0]:
        raise Impossible("no state fits")
    return [row[0] for row in rows]


def _stretches_behind(lock, dial, fitting, turns):
    # The least places of all wheels make a state again, and so do the greatest ones; turns keep the places between
    # them between them.
    _, least = turned_state(lock, (dial, [low for low, _ in fitting]), turns)
    _, greatest = turned_state(lock, (dial, [high for _, high in fitting]), turns)
    return list(zip(least, greatest))


def wheel_spans(lock, dial, spans, turns):
    """Return the list with the stretch of each wheel's places behind the turns, of all states that fit."""
    check_lock(lock)
    check_dial(dial)
    check_spans(lock, spans)
    check_turns(turns)
    return _stretches_behind(lock, dial, _fitting_stretches(lock, dial, spans), turns)


def gathered_wheels(lock, turns):
    """Return the ascending list of the wheels whose distance from the dial is known behind the turns."""
    _, rows = effect_of(lock, turns)
    return [wheel for wheel, (least, greatest) in enumerate(rows, start=1) if least == greatest]


def is_gathered(lock, turns):
    """Return whether the distances of all wheels from the dial are known behind the turns."""
    return len(gathered_wheels(lock, turns)) == len(lock[1])


def gathered_from(lock, turns):
    """Return the greatest index from which on the turns alone gather all wheels, None if there is none."""
    check_lock(lock)
    check_turns(turns)
    for index in range(len(turns), -1, -1):
        if is_gathered(lock, turns[index:]):
            return index
    return None


def _check_opening(lock, dial, spans, turns, gates, tolerance):
    check_lock(lock)
    check_dial(dial)
    check_spans(lock, spans)
    check_turns(turns)
    check_gates(lock, gates)
    check_tolerance(lock[0], tolerance)


def _gate_stretches(ring, stretch, gate, tolerance):
    """Return the stretches of the places in a stretch at which a wheel is in its gate."""
    # Otherwise neighbours would touch, and would be one stretch.
    if takes_ring(ring, tolerance):
        return [stretch]
    least, greatest = stretch
    first = least - (least - gate + tolerance) % ring
    return _common([(low, low + 2 * tolerance) for low in range(first, greatest + 1, ring)], [stretch])


def _places_before(fitting, behind, stretches):
    """Return the stretches of those fitting places of a wheel that turns lead to some stretches of places behind."""
    # Turns lead a wheel to the nearest one of its places behind them: only to the first one and to the last one can
    # they lead it from other places.
    return [
        (fitting[0] if least == behind[0] else least, fitting[1] if greatest == behind[1] else greatest)
        for least, greatest in stretches
    ]


def must_open(lock, dial, spans, turns, gates, tolerance):
    """Return whether every state that fits is open behind the turns."""
    _check_opening(lock, dial, spans, turns, gates, tolerance)
    behind = _stretches_behind(lock, dial, _fitting_stretches(lock, dial, spans), turns)
    return all([stays_in_gate(lock[0], stretch, gate, tolerance) for stretch, gate in zip(behind, gates)])


def can_open(lock, dial, spans, turns, gates, tolerance):
    """Return whether some state that fits is open behind the turns."""
    return open_start(lock, dial, spans, turns, gates, tolerance) is not None


def open_start(lock, dial, spans, turns, gates, tolerance):
    """Return a state that fits and that is open behind the turns, None if there is none."""
    _check_opening(lock, dial, spans, turns, gates, tolerance)
    fitting = _fitting_stretches(lock, dial, spans)
    behind = _stretches_behind(lock, dial, fitting, turns)
    allowed = []
    for own, led, gate in zip(fitting, behind, gates):
        allowed.append(_places_before(own, led, _gate_stretches(lock[0], led, gate, tolerance)))
    rows = _possible_places(lock, dial, allowed)
    if not rows[0]:
        return None
    # The lesser places of two states make a state again, so the least places of all wheels make one.
    return dial, [row[0][0] for row in rows]


def shows_start(lock, dial, spans, turns, gates, tolerance, value):
    """Return whether any value is a state that fits and that is open behind the turns."""
    _check_opening(lock, dial, spans, turns, gates, tolerance)
    fitting = _fitting_stretches(lock, dial, spans)
    if not is_state(lock, value) or value[0] != dial:
        return False
    if not all([least <= place <= greatest for place, (least, greatest) in zip(value[1], fitting)]):
        return False
    return is_open(lock, turned_state(lock, value, turns), gates, tolerance)
