"""Names, paths and cells."""

from everycut.errors import InvalidName
from everycut.errors import InvalidNumber
from everycut.errors import InvalidOperation

MAX_CELL = 10 ** 18 - 1
MAX_NAME = 8
MAX_PATH = 8

LETTERS = "abcdefghijklmnopqrstuvwxyz"
BASE = 27


def is_name(value):
    """Whether the value is a string of one to eight letters a to z."""
    if not isinstance(value, str) or not 1 <= len(value) <= MAX_NAME:
        return False
    return all([letter in LETTERS for letter in value])


def is_path(value):
    """Whether the value is a tuple of at most eight names."""
    if not isinstance(value, tuple) or len(value) > MAX_PATH:
        return False
    return all([is_name(name) for name in value])


def is_cell(value):
    """Whether the value is an integer from 0 to 10 ** 18 - 1."""
    # Written out, not by is_number: whole pictures are checked cell by cell.
    return isinstance(value, int) and not isinstance(value, bool) and 0 <= value <= MAX_CELL


def are_cells(value, most):
    """Whether the value is a tuple of at most so many cells."""
    if not isinstance(value, tuple) or len(value) > most:
        return False
    return all([is_cell(cell) for cell in value])


def check_path(path):
    """Raises InvalidName unless the value is a path."""
    if not is_path(path):
        raise InvalidName("not a path")


def name_cell(name):
    """The integer with the eight figures to the base 27 that the name tells."""
    if not is_name(name):
        raise InvalidName("not a name")
    cell = 0
    for at in range(MAX_NAME):
        figure = LETTERS.index(name[at]) + 1 if at < len(name) else 0
        cell = cell * BASE + figure
    return cell


def name_of_cell(cell):
    """The name with a cell, None if it is the cell of no name."""
    name = _letters_of(cell)
    # A nought ahead of a letter, or a ninth figure, is lost in the letters.
    return name if is_name(name) and name_cell(name) == cell else None


def cell_name(cell):
    """The name with this cell."""
    name = name_of_cell(cell) if is_cell(cell) else None
    if name is None:
        raise InvalidNumber(cell)
    return name


def _letters_of(cell):
    """The letters of the last eight figures of a cell, noughts left out."""
    name = ""
    left = cell
    for _ in range(MAX_NAME):
        figure = left % BASE
        left = left // BASE
        if figure > 0:
            name = LETTERS[figure - 1] + name
    return name


def parent_of(path):
    """The path without its last name."""
    check_path(path)
    if not path:
        raise InvalidOperation("the top folder has no parent")
    return path[:-1]


def is_within(path, value):
    """Whether the value is a path that begins with all names of the path."""
    check_path(path)
    return is_path(value) and value[:len(path)] == path
