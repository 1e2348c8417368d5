"""Shots on the shelf: what the roots of the head that is found reach, share and tell."""

from everycut.base.names import is_name
from everycut.errors import InvalidOperation
from everycut.errors import Refused
from everycut.errors import UnknownName
from everycut.keep.heads import HEADS
from everycut.keep.heads import found_head
from everycut.plain.coding import facts_told
from everycut.plain.coding import fault_of_rows
from everycut.plain.trees import Tree
from everycut.rows.cells import changes_between
from everycut.rows.nodes import scanned


def shelf_blocks(pair, log):
    """The dict from the places of the shelf at which a pair tells a whole block to its cells."""
    told = [(at, pair.read_block(at)) for at in range(HEADS + log, pair.size)]
    return {at: there[2] for at, there in told if there[0] == "whole"}


def head_on(pair):
    """The head that is found; raises the errors of the pair."""
    head = found_head(pair)
    if head is None:
        raise Refused(("head",))
    return head


def _root_of(head, name):
    """The root of a shot, or of the tree for None."""
    if name is None:
        return head[3]
    roots = [root for there, root in head[4] if there == name]
    if not roots:
        raise UnknownName(name)
    return roots[0]


def _sound_scan(blocks, root):
    """The scan below a root; raises Refused with its first fault, if it has one."""
    scan = scanned(blocks, root)
    if scan.faults:
        raise Refused(("rows", scan.faults[0]))
    return scan


def _scans(pair, names):
    """The scans below the roots of some shots, or of the tree for None; raises all errors."""
    head = head_on(pair)
    roots = [_root_of(head, name) for name in names]
    blocks = shelf_blocks(pair, head[1])
    return [_sound_scan(blocks, root) for root in roots]


def shot_names(pair):
    """The ascending tuple of the names of the shots."""
    return tuple([name for name, root in head_on(pair)[4]])


def shot_rows(pair, name):
    """The rows under a root."""
    return tuple(_scans(pair, (name,))[0].taken)


def shot_tree(pair, name):
    """The weighed tree with the rows under a root, without shots."""
    rows = shot_rows(pair, name)
    fault = fault_of_rows(rows)
    if fault is not None:
        raise Refused(("rows", fault))
    return Tree.of_facts(facts_told(rows)[0])


def reached_places(pair, name):
    """The ascending tuple of the places that a root reaches."""
    return tuple(sorted(_scans(pair, (name,))[0].places))


def _check_names(names):
    """Raises InvalidOperation unless the value is an ascending tuple of names."""
    if not isinstance(names, tuple) or not all([is_name(name) for name in names]):
        raise InvalidOperation("not a tuple of names")
    if not all([names[at - 1] < names[at] for at in range(1, len(names))]):
        raise InvalidOperation("not ascending names")


def own_places(pair, names):
    """The ascending tuple of the places that are own to some shots."""
    head = head_on(pair)
    _check_names(names)
    for name in names:
        _root_of(head, name)
    every = (None,) + tuple([name for name, root in head[4]])
    own = {}
    others = {}
    for name, scan in zip(every, _scans(pair, every)):
        for place in scan.places:
            if name in names:
                own[place] = True
            else:
                others[place] = True
    return tuple([place for place in sorted(own) if place not in others])


def _lacking(one, other):
    """The ascending tuple of those places of the one list that the other one lacks."""
    return tuple(sorted([place for place in one if place not in other]))


def unlike_leaves(pair, name, other):
    """The pair of the places of the leaves that just the one root, and that just the other one reaches."""
    one, last = _scans(pair, (name, other))
    return (_lacking(one.leaves, last.leaves), _lacking(last.leaves, one.leaves))


def shot_changes(pair, name, other):
    """The changes of fewest keys that lead the rows under the one root to those under the other one."""
    one, last = _scans(pair, (name, other))
    return changes_between(tuple(one.taken), tuple(last.taken))
