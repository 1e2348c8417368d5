"""Rows of keys and values, cells that tell them, and changes of rows."""

from everycut.base.names import are_cells
from everycut.errors import InvalidBlock
from everycut.errors import InvalidRow
from everycut.errors import TooMany

MOST_KEY = 3
MOST_VALUE = 8
MOST_ROWS = 2000

MOST_TOLD = 30000


def is_key(value):
    """Whether the value is a tuple of one to three cells."""
    return are_cells(value, MOST_KEY) and value != ()


def is_row_value(value):
    """Whether the value is a tuple of one to eight cells."""
    return are_cells(value, MOST_VALUE) and value != ()


def _is_row(value):
    """Whether the value is a pair of a key and a value of a row."""
    return isinstance(value, tuple) and len(value) == 2 and is_key(value[0]) and is_row_value(value[1])


def _do_ascend(keys_there):
    """Whether each key is greater than the one ahead of it."""
    return all([keys_there[at - 1] < keys_there[at] for at in range(1, len(keys_there))])


def are_rows(value):
    """Whether the value is a tuple of at most 2,000 rows with ascending keys."""
    if not isinstance(value, tuple) or len(value) > MOST_ROWS:
        return False
    return all([_is_row(row) for row in value]) and _do_ascend([row[0] for row in value])


def are_changes(value):
    """Whether the value is a dict of at most 2,000 keys to values of rows or None."""
    if not isinstance(value, dict) or len(value) > MOST_ROWS:
        return False
    return all([is_key(key) and (new is None or is_row_value(new)) for key, new in value.items()])


def check_key(key):
    """Raises InvalidRow unless the value is a key."""
    if not is_key(key):
        raise InvalidRow("not a key")


def check_rows(rows):
    """Raises InvalidRow unless the value is rows."""
    if not are_rows(rows):
        raise InvalidRow("not rows")


def check_changes(changes):
    """Raises InvalidRow unless the value is changes."""
    if not are_changes(changes):
        raise InvalidRow("not changes")


def cells_of_row(key, value):
    """The cells that tell a row, which was checked."""
    return (len(key),) + key + (len(value),) + value


def row_cells(key, value):
    """The cells that tell a row with this key and this value."""
    check_key(key)
    if not is_row_value(value):
        raise InvalidRow("not a value of a row")
    return cells_of_row(key, value)


def rows_cells(rows):
    """The cells that tell rows."""
    check_rows(rows)
    return tuple([cell for key, value in rows for cell in cells_of_row(key, value)])


def _stretch(cells, at, most):
    """The stretch behind its length at a place of the cells; None unless 1 to most cells are there."""
    if at >= len(cells) or not 1 <= cells[at] <= most:
        return None
    stretch = cells[at + 1:at + 1 + cells[at]]
    return stretch if len(stretch) == cells[at] else None


def rows_in_cells(cells):
    """The rows that cells tell, None if they tell none; the cells were checked."""
    rows = []
    at = 0
    while at < len(cells):
        key = _stretch(cells, at, MOST_KEY)
        value = None if key is None else _stretch(cells, at + 1 + len(key), MOST_VALUE)
        if value is None:
            return None
        rows.append((key, value))
        at = at + 2 + len(key) + len(value)
    if len(rows) > MOST_ROWS or not _do_ascend([row[0] for row in rows]):
        return None
    return tuple(rows)


def rows_told(cells):
    """The rows that the cells tell, None if they tell none."""
    if not are_cells(cells, MOST_TOLD):
        raise InvalidBlock("not a tuple of at most 30,000 cells")
    return rows_in_cells(cells)


def rows_behind(rows, changes):
    """The rows, changed, however many they are; all was checked."""
    found = {key: value for key, value in rows}
    for key, value in changes.items():
        found[key] = value
    return tuple([(key, found[key]) for key in sorted(found) if found[key] is not None])


def rows_changed(rows, changes):
    """The rows, changed."""
    check_rows(rows)
    check_changes(changes)
    changed = rows_behind(rows, changes)
    if len(changed) > MOST_ROWS:
        raise TooMany(MOST_ROWS)
    return changed


def changes_between(one, other):
    """The changes of fewest keys that lead the one rows to the other ones."""
    check_rows(one)
    check_rows(other)
    before = {key: value for key, value in one}
    behind = {key: value for key, value in other}
    every = sorted({**before, **behind})
    changes = {key: behind.get(key) for key in every if before.get(key) != behind.get(key)}
    if len(changes) > MOST_ROWS:
        raise TooMany(MOST_ROWS)
    return changes


def changes_joined(first, last):
    """Both changes as one, the first ones being done first."""
    check_changes(first)
    check_changes(last)
    both = {**first, **last}
    if len(both) > MOST_ROWS:
        raise TooMany(MOST_ROWS)
    return {key: both[key] for key in sorted(both)}
