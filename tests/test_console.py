"""Points 31 and 32: a console."""

import inspect
import random
import unittest

from dialpack.blind import blind_turns
from dialpack.combos import can_dial
from dialpack.console import Console
from dialpack.errors import Impossible, InvalidCommand, InvalidNumber, LockError
from dialpack.hands import greatest_hand
from dialpack.locks import is_open, numbers_of, pushed_back
from dialpack.shortest import least_turns, least_way
from dialpack.texts import format_gates, format_lock, format_state, format_turns
from dialpack.turning import turned_state
from tests.support import PointCase
from tests.test_texts import BELOW_0, NO_NUMBERS, NO_STRINGS
from tests.test_turning import GREAT, HUGE

ASKED = ["state", "numbers", "pull", "can", "way", "dial", "blind", "hand", "hand +5 -7"]
# What they are answered at first; the two turns of the last one lead the wheels out of their gates.
FIRST = ["0: 0 0 0", "0-0-0", "open", "yes", "0", "none", "-300", "none", Impossible]


class Model:
    """What a console has, and what it has to answer, by the functions."""

    def __init__(self):
        self.set_lock((100, [90, 90, 90]))

    def set_lock(self, lock):
        self.lock, self.state = lock, pushed_back(lock, 0)
        self.gates, self.tolerance = [0] * len(lock[1]), 0

    def hand(self, turns):
        hand = greatest_hand(self.lock, self.state, turns, self.gates, self.tolerance)
        return "none" if hand is None else str(hand)

    def answer(self, command, turns):
        lock, state, gates = self.lock, self.state, self.gates
        return {
            "state": lambda: format_state(state),
            "numbers": lambda: format_gates(numbers_of(lock, state)),
            "pull": lambda: "open" if is_open(lock, state, gates, self.tolerance) else "shut",
            "can": lambda: "yes" if can_dial(lock, gates, self.tolerance) else "no",
            "way": lambda: str(least_way(lock, state, gates)),
            "dial": lambda: format_turns(least_turns(lock, state, gates)) or "none",
            "blind": lambda: format_turns(blind_turns(lock, state[0], gates)) or "none",
            "hand": lambda: self.hand(turns),
        }[command]()


class ConsoleCase(PointCase):
    def told_by(self, console):
        """The answer, or the class of the error, of each command that asks."""
        told = []
        for command in ASKED:
            try:
                told.append(console.execute(command))
            except LockError as error:
                told.append(type(error))
        return told

    def console_behind(self, *commands):
        console = Console()
        for command in commands:
            self.assertEqual(console.execute(command), "ok", command)
        return console

    def check_answers(self, console, *rows):
        for command, answer in rows:
            with self.subTest(command=command):
                self.assert_same(console.execute(command), answer)

    def check_refused(self, error, console, command):
        """That a command raises an error, and that nothing has changed behind it."""
        before = self.told_by(console)
        self.check_error(error, console.execute, command)
        self.assertEqual(self.told_by(console), before)


class Examples(ConsoleCase):
    def test_dialing(self):
        self.run_examples("""
>>> from dialpack.console import Console
>>> console = Console()
>>> [console.execute(command) for command in ["gates 3-50-61", "can", "way", "pull"]]
['ok', 'yes', '435', 'shut']
>>> [console.execute(command) for command in ["turns -39 +269 -127", "state", "numbers", "pull", "dial"]]
['ok', '103: 103 50 -39', '3-50-61', 'open', 'none']
""", 4)

    def test_settings(self):
        self.run_examples("""
>>> from dialpack.console import Console
>>> console = Console()
>>> [console.execute(command) for command in ["gates 3-50-57", "can", "tolerance 2", "can"]]
['ok', 'no', 'ok', 'yes']
>>> [console.execute(command) for command in ["gates 3-50-61", "hand +331 -181 +143", "lock 10: 5", "state", "numbers", "way"]]
['ok', '2', 'ok', '0: 0', '0', '0']
""", 4)

    def test_errors(self):
        self.check_refused(InvalidNumber(""), Console(), "tolerance 50")
        self.check_refused(InvalidCommand(""), Console(), "gates 3-50")
        self.check_refused(InvalidCommand(""), Console(), "gates 3-50-100")


class Interface(ConsoleCase):
    def test_is_defined_in_the_class_itself(self):
        self.assertEqual(list(inspect.signature(Console).parameters), [])
        self.assertEqual(list(inspect.signature(vars(Console)["execute"]).parameters), ["self", "command"])
        self.assertEqual(Console().execute(command="state"), "0: 0 0 0")

    def test_two_consoles_are_apart(self):
        one, other = Console(), Console()
        one.execute("lock 10: 5")
        one.execute("turns +7")
        self.assertEqual(self.told_by(other), FIRST)


class Answers(ConsoleCase):
    def test_at_first(self):
        self.assertEqual(self.told_by(Console()), FIRST)

    def test_lock_sets_all_anew(self):
        console = self.console_behind("gates 3-50-61", "tolerance 7", "turns +331 -181")
        self.assertEqual(console.execute("lock 100: 90 90 90"), "ok")
        self.assertEqual(self.told_by(console), FIRST)
        self.check_answers(console, ("turns +9", "ok"), ("lock 10: 5 0", "ok"), ("state", "0: 0 0"), ("numbers", "0-0"))
        # The tolerance is 0 again, so a wheel at 9 is not in its gate.
        self.check_answers(console, ("turns -1", "ok"), ("pull", "shut"), ("gates 9-9", "ok"), ("pull", "open"))
        self.check_answers(console, ("lock 2: 0 0 0 0 0 0 0 0", "ok"), ("state", "0: 0 0 0 0 0 0 0 0"), ("pull", "open"))

    def test_gates_are_those_of_the_present_lock(self):
        console = self.console_behind("lock 10: 5", "gates 9")
        for command in ("gates 10", "gates 3-5", "gates 3-5-6"):
            self.check_refused(InvalidCommand(""), console, command)
        self.check_answers(console, ("lock 11: 5", "ok"), ("gates 10", "ok"), ("way", "1"), ("dial", "-1"))

    def test_tolerance(self):
        console = self.console_behind("gates 3-50-61", "turns +331 -181 +145")
        for tolerance, answer in [("0", "shut"), ("1", "shut"), ("2", "open"), ("49", "open"), ("1", "shut")]:
            self.check_answers(console, (f"tolerance {tolerance}", "ok"), ("pull", answer))
        for number in ("50", "51", "-1", "-50", "9" * 30, "-" + "9" * 30):
            self.check_refused(InvalidNumber(""), console, f"tolerance {number}")
        self.check_answers(console, ("lock 5: 3", "ok"), ("tolerance 2", "ok"))
        self.check_refused(InvalidNumber(""), console, "tolerance 3")
        # The tolerance plays no part in the least way.
        self.check_answers(console, ("gates 1", "ok"), ("pull", "open"), ("way", "4"))

    def test_turns(self):
        console = Console()
        self.check_answers(
            console, ("turns", "ok"), ("state", "0: 0 0 0"), ("turns +300", "ok"), ("state", "300: 210 120 30"),
            ("turns -50 -50", "ok"), ("state", "200: 200 120 30"), ("numbers", "0-20-30"), ("turns", "ok"),
            ("state", "200: 200 120 30"), ("turns" + " +1" * 60, "ok"), ("state", "260: 200 120 30"),
        )

    def test_can(self):
        console = self.console_behind("gates 3-50-57")
        self.check_answers(console, ("can", "no"), ("tolerance 1", "ok"), ("can", "no"), ("tolerance 2", "ok"), ("can", "yes"))
        self.check_answers(console, ("lock 100: 90 90 90", "ok"), ("can", "yes"))

    def test_ways(self):
        console = self.console_behind("gates 3-50-61")
        self.check_answers(console, ("way", "435"), ("dial", "-39 +269 -127"), ("turns -39", "ok"), ("way", "396"))
        self.check_answers(console, ("blind", format_turns(blind_turns((100, [90] * 3), -39, [3, 50, 61]))))
        self.check_answers(console, ("lock 100: 0", "ok"), ("blind", "none"), ("dial", "none"), ("turns +7", "ok"))
        self.check_answers(console, ("blind", "-7"), ("gates 7", "ok"), ("blind", "none"), ("dial", "none"))

    def test_ways_that_are_impossible(self):
        console = self.console_behind("gates 3-50-57", "tolerance 2")
        for command in ("way", "dial", "blind"):
            self.check_refused(Impossible(""), console, command)
        self.check_answers(console, ("can", "yes"), ("pull", "shut"))

    def test_hand(self):
        console = self.console_behind("gates 3-50-61")
        for tolerance in range(4):
            self.check_answers(console, (f"tolerance {tolerance}", "ok"), ("hand +331 -181 +143", str(tolerance)))
        self.check_answers(console, ("state", "0: 0 0 0"))
        for command in ("hand", "hand +331", "hand +331 -181 +139", "hand -5"):
            self.check_refused(Impossible(""), console, command)
        self.check_answers(console, ("turns +331 -181", "ok"), ("hand +143", "3"), ("turns +143", "ok"), ("hand", "none"))
        self.check_answers(console, ("lock 5: 3", "ok"), ("tolerance 2", "ok"), ("hand +9", "none"))

    def test_great(self):
        console = self.console_behind(f"lock {GREAT}: {9 * HUGE} 0 {9 * HUGE}", f"turns +{15 * HUGE}")
        self.check_answers(console, ("state", f"{15 * HUGE}: {6 * HUGE} {6 * HUGE} 0"), ("pull", "shut"))
        self.check_answers(console, (f"gates {6 * HUGE}-{6 * HUGE}-0", "ok"), ("pull", "open"), ("hand", "none"))
        self.check_answers(console, (f"tolerance {HUGE}", "ok"), ("hand +1 -1", str(HUGE - 1)), ("way", "0"))
        for _ in range(5):
            self.check_answers(console, ("turns" + f" +{10 ** 30 - 1}" * 60, "ok"))
        dial = 15 * HUGE + 300 * (10 ** 30 - 1)
        self.check_answers(console, ("state", f"{dial}: {dial - 9 * HUGE} {dial - 9 * HUGE} {dial - 18 * HUGE}"))


class Refused(ConsoleCase):
    def setUp(self):
        self.console = self.console_behind("lock 10: 5 7", "gates 3-9", "tolerance 1", "turns +20 -3")

    def check_no_command(self, command):
        with self.subTest(command=command):
            self.check_refused(InvalidCommand(""), self.console, command)

    def test_values_that_are_no_strings(self):
        for value in NO_STRINGS:
            self.check_no_command(value)
        self.check_no_command(["state"])
        self.check_no_command(b"state")

    def test_words_that_are_no_commands(self):
        for word in [
            "", " ", "x", "State", "STATE", "states", "stat", "state:", "state\n", "\nstate", "open", "ok", "undo", "log", "5",
            "+5", "fork", "help", "lock:", "turn", "gate", "hands", "ways", "dials", "cans", "none", "execute",
        ]:
            self.check_no_command(word)
            self.check_no_command(f"{word} +5")
            self.check_no_command(f"{word} 5")

    def test_words_behind_commands_that_stand_alone(self):
        for word in ("state", "numbers", "pull", "can", "way", "dial", "blind"):
            for more in ("", "x", "+5", "+5 -7", "0", word, " ", "3-9"):
                self.check_no_command(f"{word} {more}")

    def test_commands_that_do_not_stand_alone(self):
        for word in ("lock", "gates", "tolerance"):
            for end in ("", " ", "  "):
                self.check_no_command(word + end)

    def test_spaces(self):
        for command in [
            " state", "state ", " turns +5", "turns ", "turns  ", "turns  +5", "turns +5 ", "turns +5  -7", "hand ", "hand  +5",
            "hand +5 ", "lock  10: 5", "lock 10:  5", "lock 10: 5 ", "gates  3-9", "gates 3-9 ", "tolerance  1", "tolerance 1 ",
            "turns\n+5", "turns +5\n",
        ]:
            self.check_no_command(command)

    def test_locks(self):
        for text in [
            "10", "10:", "1: 5", "0: 5", "-2: 5", "x: 5", "10: x", "10: -1", "10: 5 x", "10: 05", "10: 0 0 0 0 0 0 0 0 0", "10:5",
            "10 : 5", f"1{'0' * 30}: 5", f"10: 1{'0' * 30}", "10: +5", "10: 5-5", ": 5",
        ]:
            self.check_no_command(f"lock {text}")

    def test_gates(self):
        for text in ["3", "3-9-1", "3-10", "10-3", "-3-9", "3--9", "03-9", "3-+9", "x-9", "3 9", "3-9 3-9", "3-9:", "3-" + "1" * 31]:
            self.check_no_command(f"gates {text}")

    def test_tolerances(self):
        for word in [word for word in [*NO_NUMBERS, "1 1", "1 x", "x 1"] if word]:
            self.check_no_command(f"tolerance {word}")
        for word in [*BELOW_0, "5", "6"]:
            self.check_refused(InvalidNumber(""), self.console, f"tolerance {word}")

    def test_turns(self):
        for word in ("turns", "hand"):
            for text in [
                "5", "+0", "-0", "0", "+", "-", "+5 7", "+5 0", "x", "+5 x", "+05", "+-5", f"+1{'0' * 30}", "+1" + " +1" * 60, "3-9",
            ]:
                self.check_no_command(f"{word} {text}")

    def test_errors_of_the_functions(self):
        self.console = self.console_behind("lock 10: 5 3", "gates 3-9")
        for command in ("way", "dial", "blind", "hand", "hand +5"):
            with self.subTest(command=command):
                self.check_refused(Impossible(""), self.console, command)


class Conversations(ConsoleCase):
    def drawn_command(self, rows, model):
        """A command, valid or not, and what it does to the model: the answer, or the class of the error."""
        ring, plays = model.lock
        turns = [rows.choice([-1, 1]) * rows.randint(1, 3 * ring) for _ in range(rows.randint(0, 4))]
        word = rows.choice(["lock", "gates", "gates", "tolerance", "turns", "turns", "turns", "wrong", *ASKED[:8]])
        if word == "lock":
            ring = rows.choice([2, 5, 7, 100, HUGE])
            lock = (ring, [rows.randrange(2 * ring) for _ in range(rows.randint(1, 8))])
            return f"lock {format_lock(lock)}", lambda: model.set_lock(lock)
        if word == "gates":
            gates = [rows.randrange(ring) for _ in plays]
            if rows.random() < 0.6:
                gates = numbers_of(model.lock, turned_state(model.lock, model.state, turns))
            return f"gates {format_gates(gates)}", lambda: setattr(model, "gates", gates)
        if word == "tolerance":
            number = rows.randint(0, (ring - 1) // 2)
            return f"tolerance {number}", lambda: setattr(model, "tolerance", number)
        if word == "turns":
            state = turned_state(model.lock, model.state, turns)
            return " ".join(["turns", *format_turns(turns).split()]), lambda: setattr(model, "state", state)
        if word == "hand":
            return " ".join(["hand", *format_turns(turns).split()]), lambda: model.answer(word, turns)
        if word == "wrong":
            return rows.choice(["turns 5", "gates x", f"tolerance {ring}", "lock 1: 5", "state x", "", "gates " + "0-" * 9]), None
        return word, lambda: model.answer(word, [])

    def test_long_ones(self):
        rows = random.Random(31)
        for _ in range(12):
            console, model = Console(), Model()
            for _ in range(200):
                command, carry_out = self.drawn_command(rows, model)
                with self.subTest(command=command):
                    if carry_out is None:
                        error = InvalidNumber("") if command.startswith("tolerance") else InvalidCommand("")
                        self.check_error(error, console.execute, command)
                        continue
                    try:
                        expected = carry_out() or "ok"
                    except LockError as error:
                        self.check_error(type(error)(""), console.execute, command)
                    else:
                        self.assert_same(console.execute(command), expected)
                self.assertEqual(console.execute("state"), format_state(model.state))
                self.assertEqual(console.execute("pull"), model.answer("pull", []))


if __name__ == "__main__":
    unittest.main()
