"""Which gates are left behind tries that failed: how many, at which numbers, and with which indexes."""

from dialpack.checks import check_gates, check_lock, check_number, check_tolerance, check_tries, check_wheel
from dialpack.errors import Impossible
from dialpack.locks import in_gate


def _all_in(ring, tolerance, numbers, gates):
    return all([in_gate(ring, number, gate, tolerance) for number, gate in zip(numbers, gates)])


def _is_left(lock, tolerance, tries, gates):
    return not any([_all_in(lock[0], tolerance, numbers, gates) for numbers in tries])


def _caught(ring, tolerance, tried, number):
    """Return the tries whose number for one wheel lets it be in this gate, as an integer with a bit for each one."""
    return sum([1 << at for at, other in enumerate(tried) if in_gate(ring, other, number, tolerance)])


def _row(ring, tolerance, tried):
    """Return the ascending stretches of the numbers of a wheel, as (least, greatest, caught): one answer for each."""
    begun = [(number - tolerance) % ring for number in tried]
    ended = [(number + tolerance + 1) % ring for number in tried]
    firsts = sorted(set([0, *begun, *ended]))
    return [
        (first, behind - 1, _caught(ring, tolerance, tried, first))
        for first, behind in zip(firsts, [*firsts[1:], ring])
    ]


def _rows(lock, tolerance, tries):
    ring, plays = lock
    return [_row(ring, tolerance, [numbers[at] for numbers in tries]) for at in range(len(plays))]


def _all_of(tries):
    return (1 << len(tries)) - 1


def _ways(rows, at, caught, known):
    """Return how many numbers for the wheels of the rows from an index on let none of the tries be caught by all.

    `caught` are the tries that all wheels ahead catch, `known` keeps what was worked out.
    """
    if at == len(rows):
        return 0 if caught else 1
    if (at, caught) not in known:
        known[at, caught] = sum([
            (greatest - least + 1) * _ways(rows, at + 1, caught & own, known) for least, greatest, own in rows[at]
        ])
    return known[at, caught]


def _check_tries(lock, tolerance, tries):
    check_lock(lock)
    check_tolerance(lock[0], tolerance)
    check_tries(lock, tries)


def left_count(lock, tolerance, tries):
    """Return how many gates are left."""
    _check_tries(lock, tolerance, tries)
    return _ways(_rows(lock, tolerance, tries), 0, _all_of(tries), {})


def is_left(lock, tolerance, tries, gates):
    """Return whether some gates are left."""
    _check_tries(lock, tolerance, tries)
    check_gates(lock, gates)
    return _is_left(lock, tolerance, tries, gates)


def left_numbers(lock, tolerance, tries, wheel):
    """Return the list of stretches of the numbers that are the gate of a wheel in some gates that are left."""
    _check_tries(lock, tolerance, tries)
    check_wheel(lock, wheel)
    rows = _rows(lock, tolerance, tries)
    others = [*rows[:wheel - 1], *rows[wheel:]]
    known = {}
    found = []
    for least, greatest, own in rows[wheel - 1]:
        if _ways(others, 0, own, known) > 0:
            if found and found[-1][1] + 1 == least:
                found[-1] = (found[-1][0], greatest)
            else:
                found.append((least, greatest))
    return found


def nth_left(lock, tolerance, tries, index):
    """Return the gates that are left with an index."""
    _check_tries(lock, tolerance, tries)
    rows = _rows(lock, tolerance, tries)
    known = {}
    caught = _all_of(tries)
    check_number(index, _ways(rows, 0, caught, known) - 1)
    gates = []
    rest = index
    for at, row in enumerate(rows):
        for least, greatest, own in row:
            ways = _ways(rows, at + 1, caught & own, known)
            many = (greatest - least + 1) * ways
            if rest < many:
                step, rest = divmod(rest, ways)
                gates.append(least + step)
                caught = caught & own
                break
            rest = rest - many
    return gates


def left_rank(lock, tolerance, tries, gates):
    """Return the index of gates that are left."""
    _check_tries(lock, tolerance, tries)
    check_gates(lock, gates)
    if not _is_left(lock, tolerance, tries, gates):
        raise Impossible("these gates are not left")
    rows = _rows(lock, tolerance, tries)
    known = {}
    caught = _all_of(tries)
    index = 0
    for at, gate in enumerate(gates):
        for least, greatest, own in rows[at]:
            ways = _ways(rows, at + 1, caught & own, known)
            if gate <= greatest:
                index = index + (gate - least) * ways
                caught = caught & own
                break
            index = index + (greatest - least + 1) * ways
    return index
