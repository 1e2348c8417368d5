from itertools import product
from random import Random

from helpers import Arg, Case, WrongCase, anything
from everycut.base import names
from everycut.base.names import (
    cell_name, is_cell, is_name, is_path, is_within, name_cell, parent_of)
from everycut.errors import InvalidName, InvalidNumber, InvalidOperation

EXAMPLES = '''
>>> [name_cell("a"), name_cell("zzzzzzzz"), cell_name(name_cell("log")), is_name("Log"), is_path(("a", "b")), is_within(("a",), ("a", "b")), is_within(("a",), ("ab",))]
[10460353203, 282429536480, 'log', False, True, True, False]
>>> cell_name(27)
raises InvalidNumber(27)
'''


def some_names():
    short = ["".join(letters) for many in (1, 2) for letters in product("abyz", repeat=many)]
    rng = Random(1)
    long = ["".join(rng.choice("abmyz") for _ in range(rng.randrange(3, 9))) for _ in range(300)]
    return sorted(set(short + long + ["a" * 8, "z" * 8, "z" * 7, "a" * 7 + "b"]))


class Names(Case):
    def test_examples(self):
        self.examples(EXAMPLES, vars(names).copy())

    def test_constants(self):
        self.same([names.MAX_CELL, names.MAX_NAME, names.MAX_PATH], [10 ** 18 - 1, 8, 8])

    def test_is_name(self):
        for value in ("a", "z", "abcdefgh", "zzzzzzzz"):
            self.assertIs(is_name(value), True)
        for value in ("", "abcdefghi", "A", "aB", "a1", "a b", " a", "a\n", "a_", "`", "{", ("a",), ["a"], None, 1):
            self.assertIs(is_name(value), False)

    def test_is_path(self):
        for value in ((), ("a",), ("a",) * 8, ("abcdefgh", "z")):
            self.assertIs(is_path(value), True)
        for value in (("a",) * 9, ["a"], "a", ("a", ""), ("a", 1), ("A",), (("a",),), None, {"a": 1}):
            self.assertIs(is_path(value), False)

    def test_is_cell(self):
        for value in (0, 1, 10 ** 18 - 1):
            self.assertIs(is_cell(value), True)
        for value in (-1, 10 ** 18, True, False, None, "1", (1,), 10 ** 60):
            self.assertIs(is_cell(value), False)

    def test_cells_are_figures_to_the_base_27(self):
        for name in some_names():
            figures = [ord(letter) - 96 for letter in name] + [0] * (8 - len(name))
            cell = sum(figure * 27 ** (7 - at) for at, figure in enumerate(figures))
            self.same(name_cell(name), cell)
            self.same(cell_name(cell), name)

    def test_names_are_ordered_as_their_cells(self):
        cells = [name_cell(name) for name in some_names()]
        self.assertEqual(cells, sorted(set(cells)))

    def test_cells_of_no_name(self):
        for cell in (0, 1, 26, 27, 27 ** 6, 27 ** 7 - 1, 27 ** 8, 26 * 27 ** 6, 28 * 27 ** 7, 10 ** 18 - 1,
                     10 ** 18, -1, name_cell("a") + 1, 27 ** 8 + name_cell("a"), 10 ** 60):
            self.refuses(InvalidNumber, cell, lambda: cell_name(cell))
        self.same(cell_name(27 ** 8 - 1), "zzzzzzzz")
        self.same(cell_name(27 ** 7), "a")

    def test_each_cell_near_a_name(self):
        for cell in list(range(27 ** 7 - 30, 27 ** 7 + 800)) + list(range(27 ** 8 - 800, 27 ** 8 + 30)):
            figures = [cell // 27 ** (7 - at) % 27 for at in range(8)] if cell < 27 ** 8 else []
            name = "".join(chr(96 + figure) for figure in figures if figure)
            if figures and figures[0] and 0 not in figures[:len(name)]:
                self.same(cell_name(cell), name)
            else:
                self.refuses(InvalidNumber, cell, lambda: cell_name(cell))

    def test_parent_of(self):
        self.same(parent_of(("a", "b", "c")), ("a", "b"))
        self.same(parent_of(("a",)), ())
        self.same(parent_of(("a",) * 8), ("a",) * 7)
        self.refuses(InvalidOperation, None, lambda: parent_of(()))
        self.refuses(InvalidName, None, lambda: parent_of(("a",) * 9))

    def test_is_within(self):
        for value, wanted in ((("a",), True), (("a", "b"), True), ((), False), (("b", "a"), False), (("a",) * 8, True),
                              (("a",) * 9, False), (("a", ""), False), (["a"], False), ("a", False), (None, False)):
            self.assertIs(is_within(("a",), value), wanted)
        self.assertIs(is_within((), ()), True)
        self.assertIs(is_within((), ("a",)), True)
        self.assertIs(is_within(("a", "b"), ("a",)), False)


class WrongNames(WrongCase):
    def test_wrong_inputs(self):
        name = Arg("a", is_name, InvalidName, ["a" * 9, "É", "a-", ("a",)])
        path = Arg(("a",), is_path, InvalidName, [("a",) * 9, ["a"], ("a", ""), ("a", None), "ab"])
        self.wrong_calls(name_cell, [name])
        self.wrong_calls(parent_of, [Arg(("a",), lambda value: is_path(value), InvalidName)])
        self.wrong_calls(is_within, [path, Arg(("a",), lambda value: True, None)])
        self.wrong_calls(cell_name, [Arg(27 ** 7, lambda value: value == 27 ** 7, InvalidNumber)])

    def test_judges_take_everything(self):
        for value in anything():
            for judge in (is_name, is_path, is_cell, lambda given: is_within((), given)):
                self.assertIn(judge(value), (True, False))
                self.assertIs(type(judge(value)), bool)
