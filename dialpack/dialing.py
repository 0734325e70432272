"""The turns of least way from one state of a lock to another one."""

from dialpack.checks import check_lock, check_state
from dialpack.locks import reach_of
from dialpack.turning import turned_state, way_of


def goal_turns(lock, state, goal):
    """Return the turns of least way from a state to another one, of these the fewest."""
    check_lock(lock)
    check_state(lock, state)
    check_state(lock, goal)
    goal_dial, goal_places = goal
    turns = []
    behind = state
    # The last wheel is set first: those ahead of it can be set without meeting it again, but it cannot be set without
    # pushing them. Whatever the turns, the dial comes to the stop at which this wheel is pushed to its place, and all
    # those ahead are pushed there, too: no way is less than straight to that stop. From there the next turn goes the
    # other way, since the wheels ahead cannot be pushed on without this one.
    for wheel in range(len(goal_places), 0, -1):
        dial, places = behind
        place, aim = places[wheel - 1], goal_places[wheel - 1]
        if place != aim:
            stop = aim + reach_of(lock, wheel) if place < aim else aim
            turns.append(stop - dial)
            behind = turned_state(lock, behind, [stop - dial])
    if behind[0] != goal_dial:
        turns.append(goal_dial - behind[0])
    return turns


def goal_way(lock, state, goal):
    """Return the least way from a state to another one."""
    return way_of(goal_turns(lock, state, goal))
