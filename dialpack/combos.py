"""Which combinations a lock can have: those that can be dialed, their count, and their indexes."""

from dialpack.checks import check_gates, check_lock, check_number, check_tolerance, is_within
from dialpack.errors import Impossible, InvalidWheel
from dialpack.unseen import open_start


def forbidden_numbers(lock, wheel, number):
    """Return the stretches of the numbers at which a wheel cannot stand while the one ahead stands at a number."""
    check_lock(lock)
    ring, plays = lock
    if not is_within(wheel, 2, len(plays)):
        raise InvalidWheel("the wheel must be an integer from 2 to the number of wheels")
    check_number(number, ring - 1)
    many = ring - 1 - plays[wheel - 1]
    if many <= 0:
        return []
    first = (number + 1) % ring
    last = first + many - 1
    if last < ring:
        return [(first, last)]
    return [(0, last - ring), (first, ring - 1)]


def can_dial(lock, gates, tolerance):
    """Return whether some state of the lock is open."""
    return open_state(lock, gates, tolerance) is not None


def open_state(lock, gates, tolerance):
    """Return an open state of the lock, None if there is none."""
    check_lock(lock)
    check_gates(lock, gates)
    ring, plays = lock
    check_tolerance(ring, tolerance)
    # The dial may be anywhere, so let it stand where a first play takes wheel 1 to all places in its gate. A greater
    # play than ring - 1 sets the next wheel to no further numbers.
    narrow = [2 * tolerance, *[min(play, ring - 1) for play in plays[1:]]]
    start = open_start((ring, narrow), gates[0] + tolerance, None, [], gates, tolerance)
    if start is None:
        return None
    _, places = start
    return places[0], places


def _choices(lock):
    ring, plays = lock
    return [ring, *[min(play + 1, ring) for play in plays[1:]]]


def dial_count(lock):
    """Return how many lists of gates can be dialed with the tolerance 0."""
    check_lock(lock)
    count = 1
    for many in _choices(lock):
        count = count * many
    return count


def _up_to(ahead, many):
    # So many of a wheel's numbers are at most the number ahead; the others are the greatest ones of the ring.
    return min(many, ahead + 1)


def _number_at(ring, ahead, many, rank):
    near = _up_to(ahead, many)
    return ahead + 1 - near + rank if rank < near else ring - many + rank


def _rank_of(ring, ahead, many, number):
    if (ahead - number) % ring >= many:
        raise Impossible("these gates cannot be dialed")
    return number - (ahead + 1 - _up_to(ahead, many)) if number <= ahead else number - (ring - many)


def nth_gates(lock, index):
    """Return the gates with an index among those that can be dialed with the tolerance 0."""
    check_lock(lock)
    behind = dial_count(lock)
    check_number(index, behind - 1)
    gates = []
    left = index
    # Wheel 1 can have all numbers, so it does not matter which one is taken to be ahead of it.
    ahead = 0
    for many in _choices(lock):
        behind = behind // many
        rank, left = divmod(left, behind)
        ahead = _number_at(lock[0], ahead, many, rank)
        gates.append(ahead)
    return gates


def gates_rank(lock, gates):
    """Return the index of gates among those that can be dialed with the tolerance 0."""
    check_lock(lock)
    check_gates(lock, gates)
    index = 0
    ahead = 0
    for many, gate in zip(_choices(lock), gates):
        index = index * many + _rank_of(lock[0], ahead, many, gate)
        ahead = gate
    return index
