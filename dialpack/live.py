"""A door with a lock that is turned, tried and taken back call by call."""

from dialpack.checks import check_gates, check_lock, check_tolerance, check_turn
from dialpack.errors import NothingToUndo
from dialpack.locks import is_open, numbers_of, pushed_back
from dialpack.turning import turned_state

PULL = ("pull",)


class Door:
    """A door with a lock whose gates are known; at first the dial and all wheels are at 0."""

    def __init__(self, lock, gates, tolerance):
        check_lock(lock)
        check_gates(lock, gates)
        ring, plays = lock
        check_tolerance(ring, tolerance)
        self._lock = (ring, list(plays))
        self._gates = list(gates)
        self._tolerance = tolerance
        # The calls that are not taken back, and the states: the first one, and the one behind each call.
        self._calls = []
        self._states = [pushed_back(lock, 0)]

    def turn(self, amount):
        """Turn the dial, up by an amount above 0, back by one below 0."""
        check_turn(amount)
        self._states.append(turned_state(self._lock, self._states[-1], [amount]))
        self._calls.append(("turn", amount))

    def pull(self):
        """Return whether the door opens; nothing moves."""
        state = self._states[-1]
        self._states.append(state)
        self._calls.append(PULL)
        return self._opens(state)

    def undo(self):
        """Take back the last call of turn or pull that is not taken back yet."""
        if not self._calls:
            raise NothingToUndo("no call of turn or pull is left to take back")
        self._calls.pop()
        self._states.pop()

    @property
    def dial(self):
        """The place of the dial."""
        return self._states[-1][0]

    @property
    def places(self):
        """The list of the places of the wheels."""
        return list(self._states[-1][1])

    @property
    def numbers(self):
        """The list of the numbers of the wheels."""
        return numbers_of(self._lock, self._states[-1])

    @property
    def opened(self):
        """Whether some pull that is not taken back returned True."""
        return any([self._opens(state) for state in self._pulled()])

    @property
    def tries(self):
        """The list of the numbers at which pulls that are not taken back returned False."""
        return [numbers_of(self._lock, state) for state in self._pulled() if not self._opens(state)]

    @property
    def log(self):
        """The list of the calls that are not taken back."""
        return list(self._calls)

    def __len__(self):
        return len(self._calls)

    def would_be(self, turns):
        """Return the state behind some turns; nothing changes."""
        return turned_state(self._lock, self._states[-1], turns)

    def fork(self):
        """Return a door in the same state that can take back the same calls."""
        door = Door(self._lock, self._gates, self._tolerance)
        door._calls = list(self._calls)
        door._states = list(self._states)
        return door

    def __eq__(self, other):
        if not isinstance(other, Door):
            return False
        return (
            self._lock == other._lock and self._gates == other._gates
            and self._tolerance == other._tolerance and self._calls == other._calls
        )

    def _opens(self, state):
        return is_open(self._lock, state, self._gates, self._tolerance)

    def _pulled(self):
        return [state for call, state in zip(self._calls, self._states[1:]) if call == PULL]
