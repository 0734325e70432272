"""Points 29 and 30: the texts of locks, turns, states and gates."""

import unittest

from dialpack.errors import InvalidLock, InvalidSyntax
from dialpack.texts import (
    format_gates, format_lock, format_state, format_turns, parse_gates, parse_lock, parse_state, parse_turns,
)
from dialpack.turning import turned_state
from tests.support import NO_PAIRS, PointCase, states_at
from tests.test_locks import LOCK, STATE, WRONG_LOCKS
from tests.test_turning import GREAT, HUGE

NO_STRINGS = [value for value in [*NO_PAIRS, 0.5, [["100:"]], ["100:", "90"]] if not isinstance(value, str)]
# Words that are no numbers from 0 on, wherever they stand.
NO_NUMBERS = [
    "", "x", "+5", "++5", "05", "00", "007", "-0", "-00", "-05", "-", "--5", "+", "5.0", "5,", "5_0", "1e3", "0x5", "5-",
    "5+", ":", "5:5", "\n", "5\n", "\n5", "\t5", "five", "True", "None", "1" + "0" * 30, "9" * 31, "0" * 31, "\u00b2",
    "\u0665",
]
BELOW_0 = ["-1", "-5", "-" + "9" * 30]
MOST = 10 ** 30 - 1
LONG = 10 ** 4000 - 1


class Examples(PointCase):
    def test_formats(self):
        self.run_examples("""
>>> from dialpack.texts import format_gates, format_lock, format_state, format_turns
>>> [format_lock((100, [90, 90, 90])), format_turns([300, -50]), format_turns([]), format_state((300, [210, 120, 30])), format_state((-5, [-5])), format_gates([3, 50, 61])]
['100: 90 90 90', '+300 -50', '', '300: 210 120 30', '-5: -5', '3-50-61']
""", 2)

    def test_parsing(self):
        self.run_examples("""
>>> from dialpack.texts import parse_gates, parse_lock, parse_state, parse_turns
>>> lock = (100, [90, 90, 90])
>>> [parse_lock("100: 90 90 90"), parse_turns("+300 -50"), parse_turns(""), parse_state(lock, "-5: -5 -95 -95"), parse_gates(lock, "3-50-61")]
[(100, [90, 90, 90]), [300, -50], [], (-5, [-5, -95, -95]), [3, 50, 61]]
""", 3)
        self.check_error(InvalidSyntax(1), parse_lock, "100:")
        self.check_error(InvalidSyntax(3), parse_state, LOCK, "300: 210 120 29")
        self.check_error(InvalidSyntax(1), parse_turns, "+5 7")
        self.check_error(InvalidSyntax(0), parse_gates, LOCK, "3-50")


class NoStrings(PointCase):
    def test_each(self):
        for value in NO_STRINGS:
            with self.subTest(value=value):
                self.check_error(InvalidSyntax(None), parse_lock, value)
                self.check_error(InvalidSyntax(None), parse_turns, value)
                self.check_error(InvalidSyntax(None), parse_state, LOCK, value)
                self.check_error(InvalidSyntax(None), parse_gates, LOCK, value)

    def test_lock(self):
        for index, locks in WRONG_LOCKS.items():
            for lock in locks:
                with self.subTest(lock=lock):
                    for text in ("0: 0", "0", "x", None):
                        self.check_error(InvalidLock(index), parse_state, lock, text)
                        self.check_error(InvalidLock(index), parse_gates, lock, text)


class Locks(PointCase):
    def check_lock(self, lock, text):
        self.check(text, format_lock, lock)
        self.check(lock, parse_lock, text)

    def test_both_ways(self):
        for lock, text in [
            ((2, [0]), "2: 0"), ((100, [90, 0]), "100: 90 0"), ((7, [0] * 8), "7: 0 0 0 0 0 0 0 0"),
            ((GREAT, [HUGE, 5]), f"{GREAT}: {HUGE} 5"), ((MOST, [MOST] * 8), f"{MOST}:" + f" {MOST}" * 8),
        ]:
            self.check_lock(lock, text)

    def test_great_numbers_are_only_written(self):
        self.check(f"{MOST + 1}: {LONG}", format_lock, (MOST + 1, [LONG]))
        self.check_error(InvalidSyntax(0), parse_lock, f"{MOST + 1}: 5")
        self.check_error(InvalidSyntax(1), parse_lock, f"5: {MOST + 1}")
        self.check_error(InvalidSyntax(1), parse_lock, f"5: {LONG}")
        self.check_error(InvalidSyntax(1), parse_lock, "5: " + "9" * 9990)

    def test_first_word(self):
        for word in [*[f"{wrong}:" for wrong in [*NO_NUMBERS, *BELOW_0, "0", "1"]], "", "100", ":100", "100;", "100::", "x"]:
            for rest in ("", " 90", " 90 x", " ", "  90"):
                with self.subTest(word=word, rest=rest):
                    self.check_error(InvalidSyntax(0), parse_lock, word + rest)
        self.check_error(InvalidSyntax(0), parse_lock, " 100: 90")
        self.check_error(InvalidSyntax(0), parse_lock, "100 : 90")
        self.check_error(InvalidSyntax(0), parse_lock, "100:90")

    def test_plays(self):
        for wrong in [*NO_NUMBERS, *BELOW_0, "5:"]:
            for at in range(1, 9):
                with self.subTest(wrong=wrong, at=at):
                    text = " ".join(["100:", *["90"] * (at - 1), wrong])
                    self.check_error(InvalidSyntax(at), parse_lock, text)
                    self.check_error(InvalidSyntax(at), parse_lock, text + " x")
                    self.check_error(InvalidSyntax(at), parse_lock, text + " 90")

    def test_spaces(self):
        self.check_error(InvalidSyntax(1), parse_lock, "100: ")
        self.check_error(InvalidSyntax(1), parse_lock, "100:  90")
        self.check_error(InvalidSyntax(2), parse_lock, "100: 90 ")
        self.check_error(InvalidSyntax(2), parse_lock, "100: 90  90")
        self.check_error(InvalidSyntax(0), parse_lock, " ")
        self.check_error(InvalidSyntax(0), parse_lock, "")

    def test_too_few_and_too_many(self):
        self.check_error(InvalidSyntax(1), parse_lock, "2:")
        for more in ("0", "x", "", "0 0", "-1"):
            self.check_error(InvalidSyntax(9), parse_lock, "2: 0 0 0 0 0 0 0 0 " + more)


class Turns(PointCase):
    def check_turns(self, turns, text):
        self.check(text, format_turns, turns)
        self.check(turns, parse_turns, text)

    def test_both_ways(self):
        for turns, text in [
            ([], ""), ([5], "+5"), ([-5], "-5"), ([1, -1, 1], "+1 -1 +1"), ([10, 100, -1000], "+10 +100 -1000"),
            ([1] * 60, " ".join(["+1"] * 60)), ([MOST, -MOST], f"+{MOST} -{MOST}"),
        ]:
            self.check_turns(turns, text)

    def test_great_numbers_are_only_written(self):
        self.check(f"+{LONG} -{MOST + 1}", format_turns, [LONG, -MOST - 1])
        self.check_error(InvalidSyntax(0), parse_turns, f"+{MOST + 1}")
        self.check_error(InvalidSyntax(1), parse_turns, f"+1 -{MOST + 1}")

    def test_wrong_words(self):
        signed = [f"{sign}{wrong}" for sign in "+-" for wrong in NO_NUMBERS if wrong != "-"]
        for wrong in [*signed, "+0", "-0", "0", "5", "+-5", "-+5", "+", "-", "", "x", "5:", "+5:", "+5,"]:
            for ahead in (0, 1, 5, 59):
                with self.subTest(wrong=wrong, ahead=ahead):
                    text = " ".join([*["+7"] * ahead, wrong])
                    if text:
                        self.check_error(InvalidSyntax(ahead), parse_turns, text)
                    self.check_error(InvalidSyntax(ahead), parse_turns, text + " x")
                    self.check_error(InvalidSyntax(ahead), parse_turns, text + " +5")

    def test_spaces(self):
        self.check_error(InvalidSyntax(0), parse_turns, " ")
        self.check_error(InvalidSyntax(0), parse_turns, " +5")
        self.check_error(InvalidSyntax(1), parse_turns, "+5 ")
        self.check_error(InvalidSyntax(1), parse_turns, "+5  +5")
        self.check_error(InvalidSyntax(0), parse_turns, "\n")

    def test_too_many(self):
        for more in ("+1", "x", "", "+1 +1", "7"):
            self.check_error(InvalidSyntax(60), parse_turns, " ".join(["+1"] * 60) + " " + more)
        self.check_error(InvalidSyntax(59), parse_turns, " ".join(["+1"] * 59) + " 7 +1")


class States(PointCase):
    def check_state(self, lock, state, text):
        self.check(text, format_state, state)
        self.check(state, parse_state, lock, text)

    def test_both_ways(self):
        for lock, state, text in [
            (LOCK, STATE, "300: 210 120 30"), (LOCK, (0, [0, 0, 0]), "0: 0 0 0"), ((2, [0]), (-5, [-5]), "-5: -5"),
            ((9, [3] * 8), (1, [1, 0, -1, -2, -2, -2, -3, -3]), "1: 1 0 -1 -2 -2 -2 -3 -3"),
            ((GREAT, [GREAT]), (HUGE, [HUGE - GREAT]), f"{HUGE}: {HUGE - GREAT}"),
            ((2, [1]), (-MOST, [-MOST]), f"{-MOST}: {-MOST}"), ((2, [1]), (MOST, [MOST - 1]), f"{MOST}: {MOST - 1}"),
        ]:
            self.check_state(lock, state, text)

    def test_all_states_of_small_locks(self):
        for lock in [(4, [2]), (3, [2, 3]), (5, [1, 2, 1])]:
            for dial in (-3, 0, 5):
                for state in states_at(lock, dial):
                    self.check_state(lock, state, f"{dial}: " + " ".join(map(str, state[1])))

    def test_great_numbers_are_only_written(self):
        self.check(f"{-LONG}: {LONG} {MOST + 1}", format_state, (-LONG, [LONG, MOST + 1]))
        self.check_error(InvalidSyntax(0), parse_state, (2, [1]), f"{MOST + 1}: {MOST}")
        self.check_error(InvalidSyntax(1), parse_state, (2, [1]), f"{-MOST}: {-MOST - 1}")

    def test_first_word(self):
        for word in [*[f"{wrong}:" for wrong in NO_NUMBERS], "", "0", ":0", "0;", "0::", "x"]:
            for rest in ("", " 0 0 0", " 0 x", " "):
                with self.subTest(word=word, rest=rest):
                    self.check_error(InvalidSyntax(0), parse_state, LOCK, word + rest)

    def test_places(self):
        for wrong in [*NO_NUMBERS, "1", "91", "-91", "0:", "-" + "9" * 30]:
            for at in (1, 2, 3):
                with self.subTest(wrong=wrong, at=at):
                    text = " ".join(["0:", *["0"] * (at - 1), wrong])
                    self.check_error(InvalidSyntax(at), parse_state, LOCK, text)
                    self.check_error(InvalidSyntax(at), parse_state, LOCK, text + " 0")
                    self.check_error(InvalidSyntax(at), parse_state, LOCK, text + " x")

    def test_places_behind_those_ahead(self):
        for text, word in [
            ("300: 301 300 300", 1), ("300: 209 120 30", 1), ("300: 210 211 30", 2), ("300: 210 119 30", 2),
            ("300: 210 120 121", 3), ("300: 210 120 29", 3), ("-5: -4 -5 -5", 1), ("-5: -96 x", 1), ("-5: -95 -94 x", 2),
        ]:
            self.check_error(InvalidSyntax(word), parse_state, LOCK, text)
        self.check_error(InvalidSyntax(2), parse_state, (100, [5, 0]), "7: 5 4")
        self.check((7, [5, 5]), parse_state, (100, [5, 0]), "7: 5 5")

    def test_too_few_and_too_many(self):
        for many in range(1, 4):
            self.check_error(InvalidSyntax(many), parse_state, LOCK, " ".join(["0:", "0", "0"][:many]))
        for more in ("0", "x", "", "0 0"):
            self.check_error(InvalidSyntax(4), parse_state, LOCK, "0: 0 0 0 " + more)
            self.check_error(InvalidSyntax(9), parse_state, (2, [0] * 8), "0:" + " 0" * 8 + " " + more)

    def test_spaces(self):
        self.check_error(InvalidSyntax(0), parse_state, LOCK, "")
        self.check_error(InvalidSyntax(0), parse_state, LOCK, " ")
        self.check_error(InvalidSyntax(0), parse_state, LOCK, " 0: 0 0 0")
        self.check_error(InvalidSyntax(1), parse_state, LOCK, "0:  0 0 0")
        self.check_error(InvalidSyntax(2), parse_state, LOCK, "0: 0  0 0")
        self.check_error(InvalidSyntax(3), parse_state, LOCK, "0: 0 0 ")


class Gates(PointCase):
    def check_gates(self, lock, gates, text):
        self.check(text, format_gates, gates)
        self.check(gates, parse_gates, lock, text)

    def test_both_ways(self):
        for lock, gates, text in [
            (LOCK, [3, 50, 61], "3-50-61"), (LOCK, [0, 99, 0], "0-99-0"), ((2, [0]), [1], "1"), ((2, [0]), [0], "0"),
            ((10, [0] * 8), [1, 2, 3, 4, 5, 6, 7, 8], "1-2-3-4-5-6-7-8"), ((GREAT, [0, 0]), [GREAT - 1, HUGE], f"{GREAT - 1}-{HUGE}"),
            ((MOST, [0]), [MOST - 1], f"{MOST - 1}"),
        ]:
            self.check_gates(lock, gates, text)

    def test_gates_need_not_be_dialed(self):
        self.check_gates(LOCK, [3, 50, 57], "3-50-57")

    def test_great_numbers_are_only_written(self):
        self.check(f"{LONG}-{MOST + 1}", format_gates, [LONG, MOST + 1])
        self.check_error(InvalidSyntax(0), parse_gates, (10 ** 35, [0]), f"{MOST + 1}")

    def test_first_word(self):
        for text in [
            "", "3", "3-50", "3-50-61-0", "-3-50-61", "3-50-61-", "3--50-61", "3-50--61", "3-50-100", "100-50-61", "3-050-61",
            "03-50-61", "3-50-+61", "+3-50-61", "3 -50-61", "3_50_61", "3:50:61", "3-50-61:", "x-50-61", "3-50-x", "3-50-61\n",
            "\n3-50-61", "--", "-", "3-50-" + "1" * 31, "3-50-" + "9" * 30, "3-50-\u0665",
        ]:
            for more in ("", " ", " 3-50-61", " x"):
                with self.subTest(text=text, more=more):
                    self.check_error(InvalidSyntax(0), parse_gates, LOCK, text + more)
        self.check_error(InvalidSyntax(0), parse_gates, (2, [0]), "2")
        self.check_error(InvalidSyntax(0), parse_gates, (2, [0]), "-1")
        self.check_error(InvalidSyntax(0), parse_gates, (2, [0]), "-0")

    def test_more_words(self):
        for more in ("", "3-50-61", "x", " ", "0 0"):
            self.check_error(InvalidSyntax(1), parse_gates, LOCK, "3-50-61 " + more)
        self.check_error(InvalidSyntax(0), parse_gates, LOCK, " 3-50-61")


class NewLists(PointCase):
    def test_answers_are_new(self):
        self.check_answer_is_new(parse_lock, "100: 90 90")
        self.check_answer_is_new(parse_turns, "+5 -7")
        self.check_answer_is_new(parse_turns, "")
        self.check_answer_is_new(parse_state, LOCK, "0: 0 0 0")
        self.check_answer_is_new(parse_gates, LOCK, "3-50-61")

    def test_answers_may_be_passed_on(self):
        lock = parse_lock("100: 90 90 90")
        state = parse_state(lock, "0: 0 0 0")
        self.check("103: 103 50 -39", format_state, turned_state(lock, state, parse_turns("-39 +269 -127")))


if __name__ == "__main__":
    unittest.main()
