"""The texts of locks, turns, states and gates."""

from dialpack.checks import LEAST_RING, MOST_TURNS, MOST_WHEELS, are_numbers, check_lock, is_at_least
from dialpack.errors import InvalidSyntax

MOST_DIGITS = 30


def _spaced(numbers):
    return " ".join([str(number) for number in numbers])


def format_lock(lock):
    """Return the text of a lock."""
    ring, plays = lock
    return f"{ring}: {_spaced(plays)}"


def format_turns(turns):
    """Return the text of turns."""
    return " ".join([f"{turn:+d}" for turn in turns])


def format_state(state):
    """Return the text of a state."""
    dial, places = state
    return f"{dial}: {_spaced(places)}"


def format_gates(gates):
    """Return the text of gates."""
    return "-".join([str(gate) for gate in gates])


def number_in(word):
    """Return the number that a word is, None if it is none."""
    digits = word[1:] if word.startswith("-") else word
    if not digits.isascii() or not digits.isdigit() or len(digits) > MOST_DIGITS:
        return None
    if digits.startswith("0") and word != "0":
        return None
    return int(word)


def _words_of(text):
    if not isinstance(text, str):
        raise InvalidSyntax(None)
    return text.split(" ")


def _head_in(word):
    return number_in(word[:-1]) if word.endswith(":") else None


def _turn_in(word):
    number = number_in(word[1:] if word.startswith("+") else word)
    # A sign stands ahead of each turn, and just one: "5" and "+-5" are none.
    if number is None or number == 0 or word.startswith("+") != (number > 0):
        return None
    return number


def parse_lock(text):
    """Return the lock with a text."""
    words = _words_of(text)
    ring = _head_in(words[0])
    if not is_at_least(ring, LEAST_RING):
        raise InvalidSyntax(0)
    plays = []
    for at, word in enumerate(words[1:], start=1):
        play = number_in(word)
        if at > MOST_WHEELS or not is_at_least(play, 0):
            raise InvalidSyntax(at)
        plays.append(play)
    if not plays:
        raise InvalidSyntax(len(words))
    return ring, plays


def parse_turns(text):
    """Return the turns with a text."""
    words = _words_of(text)
    if words == [""]:
        return []
    turns = []
    for at, word in enumerate(words):
        turn = _turn_in(word)
        if at >= MOST_TURNS or turn is None:
            raise InvalidSyntax(at)
        turns.append(turn)
    return turns


def parse_state(lock, text):
    """Return the state of a lock with a text."""
    check_lock(lock)
    plays = lock[1]
    words = _words_of(text)
    dial = _head_in(words[0])
    if dial is None:
        raise InvalidSyntax(0)
    places = []
    ahead = dial
    for at, word in enumerate(words[1:], start=1):
        place = number_in(word)
        if at > len(plays) or place is None or not 0 <= ahead - place <= plays[at - 1]:
            raise InvalidSyntax(at)
        places.append(place)
        ahead = place
    if len(places) < len(plays):
        raise InvalidSyntax(len(words))
    return dial, places


def parse_gates(lock, text):
    """Return the gates for a lock with a text."""
    check_lock(lock)
    words = _words_of(text)
    gates = [number_in(part) for part in words[0].split("-")]
    if not are_numbers(lock, gates):
        raise InvalidSyntax(0)
    if len(words) > 1:
        raise InvalidSyntax(1)
    return gates
