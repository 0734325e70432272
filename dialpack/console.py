"""A console that carries out commands on a lock and answers with texts."""

from dialpack.blind import blind_turns
from dialpack.checks import check_tolerance
from dialpack.combos import can_dial
from dialpack.errors import InvalidCommand, InvalidSyntax
from dialpack.hands import greatest_hand
from dialpack.locks import is_open, numbers_of, pushed_back
from dialpack.shortest import least_turns, least_way
from dialpack.texts import (
    format_gates, format_state, format_turns, number_in, parse_gates, parse_lock, parse_turns,
)
from dialpack.turning import turned_state


def _turns_in(words):
    # The empty string is the text of no turns, but one empty word is no command's end.
    if words == [""]:
        raise InvalidCommand("an empty word is no turn")
    return parse_turns(" ".join(words))


def _told_turns(turns):
    return format_turns(turns) if turns else "none"


class Console:
    """A lock, a state of it, gates and a tolerance, which commands set and ask for."""

    def __init__(self):
        self._set_lock((100, [90, 90, 90]))

    def execute(self, command):
        """Carry out a command and return its answer."""
        if not isinstance(command, str):
            raise InvalidCommand("a command must be a string")
        word, *rest = command.split(" ")
        try:
            answer = self._answer_with(word, rest) if rest else self._answer_alone(word)
        except InvalidSyntax:
            raise InvalidCommand("the words behind the first one are none of this command") from None
        return answer

    def _answer_alone(self, word):
        """Answer a command of one word."""
        if word == "state":
            return format_state(self._state)
        if word == "numbers":
            return format_gates(numbers_of(self._lock, self._state))
        if word == "pull":
            return "open" if is_open(self._lock, self._state, self._gates, self._tolerance) else "shut"
        if word == "can":
            return "yes" if can_dial(self._lock, self._gates, self._tolerance) else "no"
        if word == "way":
            return str(least_way(self._lock, self._state, self._gates))
        if word == "dial":
            return _told_turns(least_turns(self._lock, self._state, self._gates))
        if word == "blind":
            return _told_turns(blind_turns(self._lock, self._state[0], self._gates))
        return self._answer_turns(word, [])

    def _answer_with(self, word, rest):
        """Answer a command of several words."""
        if word == "lock":
            self._set_lock(parse_lock(" ".join(rest)))
        elif word == "gates":
            self._gates = parse_gates(self._lock, " ".join(rest))
        elif word == "tolerance":
            self._set_tolerance(rest)
        else:
            return self._answer_turns(word, _turns_in(rest))
        return "ok"

    def _answer_turns(self, word, turns):
        """Answer one of the commands behind which turns stand, or none."""
        if word == "turns":
            self._state = turned_state(self._lock, self._state, turns)
            return "ok"
        if word == "hand":
            hand = greatest_hand(self._lock, self._state, turns, self._gates, self._tolerance)
            return "none" if hand is None else str(hand)
        raise InvalidCommand("there is no such command")

    def _set_lock(self, lock):
        self._lock = lock
        self._state = pushed_back(lock, 0)
        self._gates = [0] * len(lock[1])
        self._tolerance = 0

    def _set_tolerance(self, words):
        tolerance = number_in(words[0])
        if len(words) > 1 or tolerance is None:
            raise InvalidCommand("behind tolerance stands one number")
        check_tolerance(self._lock[0], tolerance)
        self._tolerance = tolerance
