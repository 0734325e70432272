"""What turns do to every state of a lock, and the states that tell two lists of turns apart."""

from dialpack.checks import check_lock, check_turns
from dialpack.locks import is_state, pushed_back, pushed_up
from dialpack.turning import turned_state


def effect_of(lock, turns):
    """Return the sum of the turns and the list of the least and the greatest place of each wheel behind them."""
    check_lock(lock)
    check_turns(turns)
    shift, least = turned_state(lock, pushed_up(lock, 0), turns)
    _, greatest = turned_state(lock, pushed_back(lock, 0), turns)
    return shift, list(zip(least, greatest))


def same_effect(lock, one, other):
    """Return whether two lists of turns lead every state to the same one."""
    return effect_of(lock, one) == effect_of(lock, other)


def _parts(lock, state, one, other):
    return turned_state(lock, state, one) != turned_state(lock, state, other)


def telling_state(lock, one, other):
    """Return a state with the dial at 0 that two lists of turns lead to unlike states, None if there is none."""
    check_lock(lock)
    check_turns(one)
    check_turns(other)
    # Where turns lead these two tells where they lead any state, so if neither tells, none does.
    for state in (pushed_up(lock, 0), pushed_back(lock, 0)):
        if _parts(lock, state, one, other):
            return state
    return None


def shows_telling(lock, one, other, value):
    """Return whether any value is a state with the dial at 0 that two lists of turns lead to unlike states."""
    check_lock(lock)
    check_turns(one)
    check_turns(other)
    return is_state(lock, value) and value[0] == 0 and _parts(lock, value, one, other)
