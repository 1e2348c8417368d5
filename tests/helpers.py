"""What several test files share: examples, refused calls, and blocks made at random."""

import ast
import os
import sys
import unittest

ROOT = os.path.dirname(os.path.dirname(os.path.abspath(__file__)))
if ROOT not in sys.path:
    sys.path.insert(0, ROOT)

from everycut import errors
from everycut.outside.disks import Disk, fresh_picture
from everycut.outside.pairs import Pair, fresh_pair

KEPT = {"InvalidNumber": "given", "UnknownName": "wanted", "TooMany": "most",
        "NoRoom": "wanted", "Refused": "reason", "ParseError": "at"}

LEFT = (0, 2, 1, 1, 1, 10, 1, 2, 1, 20)
RIGHT = (0, 3, 1, 5, 1, 50, 2, 5, 0, 1, 51, 1, 7, 1, 70)
TOP = (1, 2, 1, 1, 1, 6, 1, 5, 1, 7)


def deep(depth):
    value = ()
    for _ in range(depth):
        value = (value,)
    return value


def anything():
    """Values of all kinds; built anew, as objects can be changed."""
    return [
        None, True, False, 0, 1, -1, 2, 5, 23, 24, 240, 241, 10 ** 18 - 1, 10 ** 18, 10 ** 59, 10 ** 60,
        -10 ** 60, 10 ** 99, -10 ** 99, "", "a", "zzzzzzzz", "abcdefghi", "A", "a b", "x" * 4000, "whole\n",
        (), (1,), (True,), ("a",), (None,), (1, 2, 3), [], [1], ["a"], {}, {1: 2}, {"a": None}, {(5, 0): 0},
        ((), (), (), ()), [(), (), (), ()], ("torn",), ["torn"], ("whole", True, ()), deep(7), [[[[]]]],
        ({}, {}), [{}, {}], (("flush",),), (1, "a", None, [2], {3: ()}),
        Disk(fresh_picture(24)), fresh_pair(24), errors.InvalidDisk("x"), errors.InvalidNumber(3), errors.Refused,
    ]


def raised(call):
    """The error that a call raises, None if it raises none."""
    try:
        call()
    except Exception as error:
        return error
    return None


def same(one, other):
    """Whether two values are equal, True not being 1, and dicts with keys in one sequence."""
    if type(one) is not type(other):
        return False
    if isinstance(one, (tuple, list)):
        return len(one) == len(other) and all(map(same, one, other))
    if isinstance(one, dict):
        return same(list(one.items()), list(other.items()))
    return one == other


class Case(unittest.TestCase):
    def refuses(self, error, kept, call):
        """The call raises just this error, which keeps this value (if errors of its class keep one)."""
        got = raised(call)
        self.assertIs(type(got), error, got)
        name = KEPT.get(error.__name__)
        if name is not None:
            self.assertTrue(same(getattr(got, name), kept) or getattr(got, name) is kept, (getattr(got, name), kept))

    def same(self, one, other):
        self.assertTrue(same(one, other), (one, other))

    def examples(self, text, names):
        """Runs examples as the document writes them."""
        lines = [line for line in text.strip().split("\n")]
        at = 0
        count = 0
        while at < len(lines):
            code = lines[at][4:]
            self.assertTrue(lines[at].startswith(">>> "), lines[at])
            told = lines[at + 1] if at + 1 < len(lines) and not lines[at + 1].startswith(">>> ") else None
            at += 1 if told is None else 2
            count += 1
            if told is None:
                exec(code, names)
            elif told.startswith("raises "):
                wanted = ast.parse(told[7:], mode="eval").body
                name = wanted.func.id if isinstance(wanted, ast.Call) else wanted.id
                kept = ast.literal_eval(wanted.args[0]) if isinstance(wanted, ast.Call) else None
                self.refuses(getattr(errors, name), kept, lambda: eval(code, names))
            else:
                self.same(eval(code, names), ast.literal_eval(told))
        self.assertGreater(count, 0)


class Arg:
    """A parameter: a good value, whether a value is good, and the error for all others."""

    def __init__(self, good, is_good, error, more=()):
        self.good, self.is_good, self.error, self.more = good, is_good, error, more

    def wrong(self):
        return [value for value in list(self.more) + anything() if not self.is_good(value)]


def is_int(value, low, high):
    return type(value) is int and low <= value <= high


def number(good, low, high):
    """The Arg of an integer within bounds."""
    more = [low - 1, high + 1, str(good), (good,), [good], {good: good}]
    return Arg(good, lambda value: is_int(value, low, high), errors.InvalidNumber, more)


def never(value):
    return False


class WrongCase(Case):
    def wrong_calls(self, function, args, state=lambda: None):
        """One and two wrong arguments at once are refused with the first error, and nothing changes."""
        before = state()
        for at, arg in enumerate(args):
            for value in arg.wrong():
                given = [other.good for other in args]
                given[at] = value
                self._refused(function, given, arg, value)
                for later in range(at + 1, len(args)):
                    for second in args[later].wrong()[::7]:
                        given = [other.good for other in args]
                        given[at], given[later] = value, second
                        self._refused(function, given, arg, value)
        after = state()
        self.assertEqual(before, after)

    def _refused(self, function, given, arg, value):
        got = raised(lambda: function(*given))
        self.assertIs(type(got), arg.error, (function, given, got))
        if arg.error is errors.InvalidNumber:
            self.assertTrue(got.given is value or same(got.given, value), (function, given))


def random_block(rng, at, editions, cells=None):
    """A block of sectors that fit the place with some editions, short ones and others among them."""
    block = []
    for part in range(4):
        kind = rng.randrange(6)
        if kind == 0:
            block.append(())
        elif kind == 1:
            block.append((at, rng.choice(editions), rng.randrange(4)))
        else:
            length = rng.choice((0, 1, 13)) if cells is None else cells
            block.append((at, rng.choice(editions), part) + (rng.randrange(2),) * length)
    return tuple(block)


def reference_wholes(place, copies):
    """The dict of the whole editions to their cells, straight as [3.3] says."""
    found = {}
    editions = {sector[1] for copy in copies for sector in copy if sector is not None and len(sector) > 2}
    for edition in editions - {0}:
        values = [{copy[i] for copy in copies if copy[i] is not None and copy[i][:3] == (place, edition, i)}
                  for i in range(4)]
        if all(len(there) == 1 for there in values):
            sectors = tuple(there.pop() for there in values)
            cells = tuple(cell for sector in sectors for cell in sector[3:])
            made = tuple((place, edition, i) + cells[13 * i:13 * i + 13] for i in range(4))
            if made == sectors:
                found[edition] = cells
    return found


def reference_told(place, copies):
    """What copies tell, straight as [3.3] says."""
    found = reference_wholes(place, copies)
    if found:
        return ("whole", max(found), found[max(found)])
    if any(all(copy[i] is None for copy in copies) for i in range(4)):
        return ("lost",)
    if all(sector in ((), None) for copy in copies for sector in copy):
        return ("blank",)
    return ("torn",)


def two_disks(size=24):
    return Disk(fresh_picture(size)), Disk(fresh_picture(size))


def state_of(disk):
    return disk.settled, disk.rows


def pair_state(pair):
    return state_of(pair.one), state_of(pair.other)
