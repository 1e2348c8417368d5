"""Deeds, whatever tree they may be done to."""

from everycut.base.checks import is_number
from everycut.base.names import is_name
from everycut.base.names import is_path
from everycut.errors import InvalidDeed

MAX_NAMES = 8
MAX_NUMBERS = 96
PIECE = 8
MAX_WRITTEN = 32
MAX_TOGETHER = 6

LEAST_TOGETHER = 2
MOST_NUMBER = 10 ** 9 - 1
PATH_WORDS = ("make", "folder", "drop")
PATHS_WORDS = ("link", "move")
SHOT_WORDS = ("snap", "unsnap", "back")


def are_file_numbers(value, least, most):
    """Whether the value is a tuple of so many numbers that a file can have."""
    if not isinstance(value, tuple) or not least <= len(value) <= most:
        return False
    return all([is_number(number, 0, MOST_NUMBER) for number in value])


def _is_long_path(value):
    """Whether the value is a path of at least one name."""
    return is_path(value) and value != ()


def _is_written(value):
    """Whether the members behind the word of a write are as they should be."""
    return len(value) == 4 and is_number(value[2], 0, MAX_NUMBERS) and are_file_numbers(value[3], 1, MAX_WRITTEN)


def _is_part(value):
    """Whether the value is a deed of one of the first seven words."""
    if not isinstance(value, tuple) or len(value) < 2 or not _is_long_path(value[1]):
        return False
    word = value[0]
    if word in PATH_WORDS:
        return len(value) == 2
    if word in PATHS_WORDS:
        return len(value) == 3 and _is_long_path(value[2])
    if word == "write":
        return _is_written(value)
    return word == "cut" and len(value) == 3 and is_number(value[2], 0, MAX_NUMBERS)


def _are_parts(value):
    """Whether the value is a tuple of two to six deeds of the first seven words."""
    if not isinstance(value, tuple) or not LEAST_TOGETHER <= len(value) <= MAX_TOGETHER:
        return False
    return all([_is_part(part) for part in value])


def is_deed(value):
    """Whether the value is a deed, whatever tree it may be done to."""
    if _is_part(value) or value == ("order",):
        return True
    if not isinstance(value, tuple) or len(value) != 2:
        return False
    if value[0] in SHOT_WORDS:
        return is_name(value[1])
    return value[0] == "all" and _are_parts(value[1])


def check_deed(deed):
    """Raises InvalidDeed unless the value is a deed."""
    if not is_deed(deed):
        raise InvalidDeed("not a deed")


def is_plain(deed):
    """Whether a deed, which was checked, is no bar."""
    return deed[0] not in SHOT_WORDS and deed[0] != "order"


def parts_of(number, deed):
    """The pairs of the deeds of which a plain deed is made, and of the node that each would make."""
    if deed[0] != "all":
        return [(deed, 16 * number)]
    return [(part, 16 * number + at) for at, part in enumerate(deed[1])]
