"""What holds of all seven calls: nothing is changed, kept, printed, read; whole numbers alone are given back."""

import builtins
import copy
import importlib
import os
import pkgutil
import subprocess
import sys
import unittest
from unittest import mock

import rankedfunctions
from calls import BIGGEST, coded
from forms import ARRAYS, NO_ARRAYS
from rankedfunctions import ranks
from sampler import Sampler
from texts import FAULTS, LONGS, PLAINS

CALLS = ("where", "plain", "uses", "one", "two", "tally1", "tally2")
ROOT = os.path.dirname(os.path.dirname(os.path.abspath(__file__)))


def refuse(*arguments, **named):
    raise AssertionError("what isn't to be done here")


class Held(list):
    """A list that can't be changed, not for a while either."""

    append = extend = insert = pop = remove = clear = reverse = sort = refuse
    __setitem__ = __delitem__ = __iadd__ = __imul__ = refuse


def texts():
    return [coded(text) for text in [text for text, rest in FAULTS + PLAINS] + list(LONGS)]


def calls_of_working():
    """Calls of one, two, tally1 and tally2: those that answer, and those that are refused in each way."""
    sampler = Sampler()
    for _ in range(300):
        f, y = coded("".join(sampler.function())), sampler.array()
        yield "one", [f, *y]
        yield "tally1", [f, *y]
        f, (x, y) = coded("".join(sampler.function_of_two())), sampler.arrays()
        yield "two", [f, *x, *y]
        yield "tally2", [f, *x, *y]
    for f in (coded("-"), coded("-:fold"), coded("Abs:swap"), coded("+"), coded("Abs"), coded("+:fol"), [43] * 257):
        for shape, data in ARRAYS + NO_ARRAYS[::5]:
            for name in ("one", "tally1"):
                yield name, [f, shape, data]
            for name in ("two", "tally2"):
                yield name, [f, shape, data, [], [1]]
                yield name, [f, [], [1], shape, data]
    for text in ("*", "Div", "And", "<", "=", "Same", "Find", "Pick"):
        yield "two", [coded(text), [2], [BIGGEST, 0], [2], [BIGGEST, 0]]
        yield "two", [coded(text), [2], [1, 1], [2], [1, 1]]
        yield "tally2", [coded(text), [2], [1, 1], [2], [1, 1]]


def all_calls():
    for f in texts():
        for name in ("where", "plain", "uses"):
            yield name, [f]
    yield from calls_of_working()


def ask(name, arguments):
    return getattr(ranks, name)(*arguments)


def kept_at_tops():
    """All that the package's files bind at their tops, but functions and classes."""
    kept = {}
    for found in pkgutil.iter_modules(rankedfunctions.__path__):
        module = importlib.import_module("rankedfunctions." + found.name)
        for name, value in vars(module).items():
            if isinstance(value, (int, str, list, tuple, dict)) and not name.startswith("__"):
                kept[found.name, name] = copy.copy(value)
    return kept


class WholeTest(unittest.TestCase):
    @classmethod
    def setUpClass(cls):
        cls.calls = list(all_calls())

    def test_each_call_is_asked(self):
        self.assertEqual({name for name, arguments in self.calls}, set(CALLS))
        answers = {(name, ask(name, arguments)[0]) for name, arguments in self.calls}
        for name in ("one", "two", "tally1", "tally2"):
            for number in (0, -1, -2, -11, -20, -21, -22):
                self.assertIn((name, number), answers)

    def test_what_is_handed_in_is_not_changed(self):
        for name, arguments in self.calls:
            held = [Held(argument) for argument in arguments]
            answer = ask(name, held)
            self.assertEqual([list(argument) for argument in held], arguments)
            self.assertEqual(answer, ask(name, arguments), (name, arguments))

    def test_one_list_may_be_handed_in_for_several(self):
        both = [1, 1]
        self.assertEqual(ranks.two(coded("+"), both, [5], both, [5]), [0, 2, 1, 1, 1, 10])
        self.assertEqual(ranks.two(coded("Join"), [2], both, [2], both), [0, 1, 4, 4, 1, 1, 1, 1])
        self.assertEqual(ranks.tally2(coded("-:table"), [2], both, [2], both), [0, 4])
        self.assertEqual(both, [1, 1])

    def test_asked_twice_and_in_another_order(self):
        first = [ask(name, arguments) for name, arguments in self.calls]
        again = [ask(name, arguments) for name, arguments in self.calls]
        self.assertEqual(again, first)
        backward = [ask(name, arguments) for name, arguments in self.calls[::-1]]
        self.assertEqual(backward[::-1], first)
        # Each behind another call than before.
        for number in sorted(range(len(self.calls)), key=lambda number: (number % 7, number)):
            self.assertEqual(ask(*self.calls[number]), first[number], self.calls[number])

    def test_what_was_given_back_is_the_callers(self):
        for name, arguments in self.calls:
            answer = ask(name, arguments)
            kept = list(answer)
            answer.reverse()
            answer.append(99)
            self.assertEqual(ask(name, arguments), kept, (name, arguments))

    def test_whole_numbers_alone_are_given_back(self):
        for name, arguments in self.calls:
            answer = ask(name, arguments)
            self.assertIs(type(answer), list)
            self.assertTrue(all(type(number) is int for number in answer), (name, arguments, answer))

    def test_the_form_of_each_answer(self):
        for name, arguments in self.calls:
            answer = ask(name, arguments)
            if answer[0] < 0 or name in ("where", "uses"):
                self.assertEqual(len(answer), 1, (name, arguments))
            elif name in ("tally1", "tally2"):
                self.assertEqual((len(answer), answer[0]), (2, 0), (name, arguments))
                self.assertGreaterEqual(answer[1], 0)
            elif name in ("one", "two"):
                rank = answer[1]
                count = answer[2 + rank]
                product = 1
                for extent in answer[2:2 + rank]:
                    product *= extent
                self.assertEqual((answer[0], count), (0, product), (name, arguments))
                self.assertEqual(len(answer), 3 + rank + count, (name, arguments))
                self.assertTrue(all(abs(element) <= BIGGEST for element in answer[3 + rank:]))
            else:
                self.assertLessEqual(len(answer), 56)

    def test_nothing_is_kept_at_the_tops(self):
        before = kept_at_tops()
        for name, arguments in self.calls:
            ask(name, arguments)
        self.assertEqual(kept_at_tops(), before)

    def test_nothing_is_opened_asked_for_or_imported(self):
        with mock.patch.multiple(builtins, open=refuse, input=refuse, print=refuse, __import__=refuse):
            answers = [ask(name, arguments) for name, arguments in self.calls]
        self.assertEqual(len(answers), len(self.calls))

    def test_nothing_is_printed(self):
        script = (
            "import sys; sys.path[:0] = sys.argv[1:]\n"
            "import test_whole\n"
            "for name, arguments in test_whole.all_calls(): test_whole.ask(name, arguments)\n"
        )
        done = subprocess.run(
            [sys.executable, "-B", "-c", script, ROOT, os.path.join(ROOT, "tests")],
            stdin=subprocess.DEVNULL, capture_output=True, check=False)
        self.assertEqual((done.returncode, done.stdout, done.stderr), (0, b"", b""))

    def test_few_calls_within_one_another(self):
        # The longest chains of modifiers, also where cells of zeros are worked.
        limit = sys.getrecursionlimit()
        depth = 0
        frame = sys._getframe()
        while frame:
            depth += 1
            frame = frame.f_back
        try:
            sys.setrecursionlimit(depth + 150)
            for modifier in (":at 0", ":at 5", ":table", ":fold", ":scan", ":swap"):
                for shape, data in (([], [1]), ([0], []), ([1, 1, 1, 1, 1], [1]), ([1024], [0] * 1024)):
                    ranks.two(coded("-" + modifier * 8), [], [1], shape, data)
                    ranks.tally1(coded("-" + modifier * 8), shape, data)
        finally:
            sys.setrecursionlimit(limit)


if __name__ == "__main__":
    unittest.main()
