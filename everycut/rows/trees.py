"""Search trees whose nodes are told by the cells of blocks."""

from everycut.base.checks import check_number
from everycut.base.checks import is_number
from everycut.base.names import are_cells
from everycut.errors import InvalidBlock
from everycut.errors import InvalidOperation
from everycut.errors import Refused
from everycut.outside.blocks import MOST_CELLS
from everycut.outside.disks import MOST_BLOCKS
from everycut.rows.cells import check_changes
from everycut.rows.cells import check_key
from everycut.rows.cells import rows_behind
from everycut.rows.growing import grown
from everycut.rows.nodes import LEAST_INNER
from everycut.rows.nodes import LEAST_LEAF
from everycut.rows.nodes import are_blocks
from everycut.rows.nodes import check_blocks
from everycut.rows.nodes import check_root
from everycut.rows.nodes import node_in_cells
from everycut.rows.nodes import scanned
from everycut.rows.nodes import sound_scan

LEAST_FREE = 2
MOST_COUNTED = 10 ** 6


def node_told(cells):
    """The pair of the level and the members of a node, None if the cells tell none."""
    if not are_cells(cells, MOST_CELLS):
        raise InvalidBlock("not a tuple of at most 52 cells")
    return node_in_cells(cells)


def tree_fault(blocks, root):
    """The first fault of the tree of a root, None if there is none."""
    check_blocks(blocks)
    check_root(root)
    faults = scanned(blocks, root).faults
    return faults[0] if faults else None


def tree_scan(blocks, root):
    """The rows and the places of the nodes that are taken, and all faults."""
    check_blocks(blocks)
    check_root(root)
    scan = scanned(blocks, root)
    return (tuple(scan.taken), tuple(sorted(scan.places)), tuple(scan.faults))


def tree_rows(blocks, root):
    """The rows of a sound tree."""
    check_blocks(blocks)
    check_root(root)
    return tuple(sound_scan(blocks, root).taken)


def tree_blocks(blocks, root):
    """The ascending tuple of the places of all nodes of a sound tree."""
    check_blocks(blocks)
    check_root(root)
    return tuple(sorted(sound_scan(blocks, root).places))


def tree_get(blocks, root, key):
    """The value of a key in a sound tree, None if it is not there."""
    check_blocks(blocks)
    check_root(root)
    check_key(key)
    found = [value for there, value in sound_scan(blocks, root).taken if there == key]
    return found[0] if found else None


def tree_between(blocks, root, low, high):
    """The rows of a sound tree whose keys are at least low and less than high."""
    check_blocks(blocks)
    check_root(root)
    check_key(low)
    check_key(high)
    return tuple([row for row in sound_scan(blocks, root).taken if low <= row[0] < high])


def _is_free(value):
    """Whether the value is an ascending tuple of integers from 2 to 239."""
    if not isinstance(value, tuple):
        return False
    if not all([is_number(place, LEAST_FREE, MOST_BLOCKS - 1) for place in value]):
        return False
    return all([value[at - 1] < value[at] for at in range(1, len(value))])


def _change_asked(blocks, root, changes, free):
    """The rows behind the changes, those changes that make a difference, and how many nodes may be fresh.

    Raises the errors of the functions that change a tree.
    """
    check_blocks(blocks)
    check_root(root)
    check_changes(changes)
    if not _is_free(free):
        raise InvalidOperation("not ascending places from 2 on")
    scan = sound_scan(blocks, root)
    if [place for place in scan.places if place in free]:
        raise InvalidOperation("the tree reaches a place that is to be free")
    before = {key: value for key, value in scan.taken}
    unlike = {key: value for key, value in changes.items() if before.get(key) != value}
    behind = rows_behind(tuple(scan.taken), unlike)
    most = _most_fresh(len(before), len(behind), len(unlike))
    if len(free) < most:
        raise Refused(("room",))
    return (behind, unlike, most)


def tree_changed(blocks, root, changes, free):
    """The pair of the root and of the fresh nodes of the tree with its rows changed."""
    asked = _change_asked(blocks, root, changes, free)
    return grown(blocks, root, asked[1], free)


def is_tree_change(blocks, root, changes, free, value):
    """Whether the value is a pair of a root and of fresh nodes with which the rows are changed."""
    behind, _, most = _change_asked(blocks, root, changes, free)
    if not isinstance(value, tuple) or len(value) != 2 or not is_number(value[0], 0, MOST_BLOCKS - 1):
        return False
    fresh = value[1]
    if not are_blocks(fresh) or len(fresh) > most or not all([place in free for place in fresh]):
        return False
    scan = scanned({**blocks, **fresh}, value[0])
    if scan.faults or tuple(scan.taken) != behind:
        return False
    return all([place in scan.places for place in fresh])


def _level_counts(many):
    """How many nodes a tree of so many rows has at most at each level, from the level 0 on."""
    if many == 0:
        return []
    counts = [max(1, many // LEAST_LEAF)]
    while counts[-1] > 1:
        counts.append(max(1, counts[-1] // LEAST_INNER))
    return counts


def _most_fresh(before, after, changes):
    """How many fresh nodes so many changes may need; the numbers were checked."""
    levels = max(1, len(_level_counts(before + changes)))
    return min(sum(_level_counts(after)), 2 * changes * levels)


def most_blocks(many):
    """How many nodes a tree of so many rows has at most."""
    check_number(many, 0, MOST_COUNTED)
    return sum(_level_counts(many))


def most_level(many):
    """The greatest level of the top node of a tree of so many rows, 0 for none."""
    check_number(many, 0, MOST_COUNTED)
    return max(1, len(_level_counts(many))) - 1


def most_fresh(before, after, changes):
    """How many fresh nodes so many changes may need that lead some rows to others."""
    check_number(before, 0, MOST_COUNTED)
    check_number(after, 0, MOST_COUNTED)
    check_number(changes, 0, MOST_COUNTED)
    return _most_fresh(before, after, changes)
