"""What the tests of several points share."""

import doctest
import inspect
import unittest
from itertools import product

# Values of other kinds than an integer, a list or a tuple of two items.
OTHER_KINDS = [None, True, False, "", "0", "ab", b"0", 1.0, 0.5, 1j, {}, {0: 1}, {0}, frozenset(), range(2), object(), int]

NO_INTEGERS = [*OTHER_KINDS, [], [0], (), (0,), (0, [0])]
NO_LISTS = [*OTHER_KINDS, 0, 1, -1, (), (0,), (0, 0, 0), (0, [0]), ([0], [0])]
NO_PAIRS = [*OTHER_KINDS, 0, 1, [], [100, [90]], (), (100,), (100, [90], 0), ([100, [90]],), ((100, [90]),)]


def lists_in(value):
    """All lists in a value, one for each place where a list stands."""
    if not isinstance(value, (list, tuple)):
        return []
    found = [rows for item in value for rows in lists_in(item)]
    return [value, *found] if isinstance(value, list) else found


def list_ids(value):
    """The identities of all lists in a value."""
    return [id(rows) for rows in lists_in(value)]


def states_at(lock, dial):
    """All states of a lock with this dial."""
    for gaps in product(*[range(play + 1) for play in lock[1]]):
        yield dial, [dial - sum(gaps[:wheel]) for wheel in range(1, len(gaps) + 1)]


def searched_ways(start, step, told, count):
    """The least number of units to each value that `told` gives for what units lead to, None being no value.

    `step` gives what one unit up or back leads to. The search ends when it has found so many values.
    """
    found = {}
    seen = {start}
    row = [start]
    way = 0
    while True:
        for one in row:
            value = told(one)
            if value is not None:
                found.setdefault(value, way)
        if len(found) == count:
            return found
        behind = []
        for one in row:
            for unit in (1, -1):
                led = step(one, unit)
                if led not in seen:
                    seen.add(led)
                    behind.append(led)
        row = behind
        way += 1


class PointCase(unittest.TestCase):
    """A test of one point of the document."""

    maxDiff = None

    def assert_same(self, one, other):
        """Equal, and of the same kinds: Python takes True for equal to 1, and 1.0, too."""
        self.assertEqual(one, other)
        self.assertEqual(repr(one), repr(other))

    def call(self, function, *args):
        """The answer of a function, if it keeps to the conventions of point 2."""
        before = repr(args)
        answer = function(*args)
        again = function(*args)
        names = list(inspect.signature(function).parameters)
        named = function(**dict(zip(names, args)))
        self.assertEqual(repr(args), before, "an argument was modified")
        self.assert_same(again, answer)
        self.assert_same(named, answer)
        lists = [*list_ids(answer), *list_ids(again), *list_ids(named)]
        self.assertEqual(len(set(lists)), len(lists), "one list stands in two places of answers")
        self.assertFalse(set(lists) & set(list_ids(args)), "a list of an argument was returned")
        return answer

    def check(self, expected, function, *args):
        """That a function has this answer."""
        self.assert_same(self.call(function, *args), expected)

    def check_error(self, expected, function, *args):
        """That a function raises an error of this very class, with these fields and no others."""
        before = repr(args)
        names = list(inspect.signature(function).parameters)
        for call in (lambda: function(*args), lambda: function(**dict(zip(names, args)))):
            with self.assertRaises(ValueError) as caught:
                call()
            self.assertIs(type(caught.exception), type(expected), args)
            self.assert_same(vars(caught.exception), vars(expected))
        self.assertEqual(repr(args), before, "an argument was modified")

    def check_answer_is_new(self, function, *args):
        """That what is done to the lists of an answer has no effect on the next answer."""
        answer = function(*args)
        before = repr(answer)
        for rows in lists_in(answer):
            rows.clear()
            rows.append(None)
        self.assertEqual(repr(function(*args)), before)

    def run_examples(self, text, count):
        """That examples print what they are followed by, and that all of them were run."""
        test = doctest.DocTestParser().get_doctest(text, {}, self.id(), None, 0)
        report = []
        result = doctest.DocTestRunner(verbose=False).run(test, out=report.append)
        self.assertEqual(result.failed, 0, "".join(report))
        self.assertEqual(result.attempted, count)
