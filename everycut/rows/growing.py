"""Search trees that are changed by fresh nodes, elder nodes being shared."""

from everycut.rows.cells import cells_of_row
from everycut.rows.nodes import least_members
from everycut.rows.nodes import most_members
from everycut.rows.nodes import node_in_cells


class Node:
    """A node that never changes, but that a fresh one gets its place at last.

    A fresh node has the place None. Members are rows at the level 0, nodes above.
    """

    def __init__(self, place, level, members):
        self.place = place
        self.level = level
        self.members = members

    def least_key(self):
        """The least key below the node."""
        return self.members[0][0] if self.level == 0 else self.members[0].least_key()


def node_at(blocks, place):
    """The node at a place with all nodes below it, of a tree that is sound."""
    level, members = node_in_cells(blocks[place])
    if level == 0:
        return Node(place, 0, list(members))
    return Node(place, level, [node_at(blocks, value[0]) for key, value in members])


def _split(level, members):
    """One or two fresh nodes with some members."""
    if len(members) <= most_members(level):
        return [Node(None, level, members)]
    half = len(members) // 2
    return [Node(None, level, members[:half]), Node(None, level, members[half:])]


def _child_for(node, key):
    """The index of the member of a node below which a key is, or would be put."""
    found = 0
    for at, child in enumerate(node.members):
        if child.least_key() <= key:
            found = at
    return found


def _with_row(node, key, value):
    """The one or two fresh nodes in the place of a node in which a key gets a value."""
    if node.level == 0:
        rows = [row for row in node.members if row[0] != key] + [(key, value)]
        return _split(0, sorted(rows, key=lambda row: row[0]))
    at = _child_for(node, key)
    parts = _with_row(node.members[at], key, value)
    return _split(node.level, node.members[:at] + parts + node.members[at + 1:])


def _without_key(node, key):
    """A fresh node in the place of a node that has a key; it can have one member too few."""
    if node.level == 0:
        return Node(None, 0, [row for row in node.members if row[0] != key])
    at = _child_for(node, key)
    child = _without_key(node.members[at], key)
    members = node.members[:at] + [child] + node.members[at + 1:]
    if len(child.members) >= least_members(child.level, False):
        return Node(None, node.level, members)
    # The neighbour gives some members away, or both become one node.
    left = at - 1 if at > 0 else at
    parts = _split(child.level, members[left].members + members[left + 1].members)
    return Node(None, node.level, members[:left] + parts + members[left + 2:])


def _changed_once(top, key, value):
    """The top node, None for no rows, behind one change that makes a difference."""
    if value is None:
        changed = _without_key(top, key)
        if not changed.members:
            return None
        is_single = changed.level > 0 and len(changed.members) == 1
        return changed.members[0] if is_single else changed
    if top is None:
        return Node(None, 0, [(key, value)])
    parts = _with_row(top, key, value)
    return parts[0] if len(parts) == 1 else Node(None, top.level + 1, parts)


def _fresh_nodes(node):
    """The list of a node and all nodes below it that are fresh, from the top down."""
    if node is None or node.place is not None:
        return []
    found = [node]
    if node.level > 0:
        for child in node.members:
            found.extend(_fresh_nodes(child))
    return found


def _cells_of(node):
    """The cells of a node below which each node has its place."""
    cells = (node.level, len(node.members))
    for member in node.members:
        if node.level == 0:
            cells = cells + cells_of_row(member[0], member[1])
        else:
            cells = cells + cells_of_row(member.least_key(), (member.place,))
    return cells


def grown(blocks, root, changes, free):
    """The pair of the root and of the fresh nodes of a sound tree that is changed.

    Each of the changes makes a difference, and there are places enough.
    """
    top = None if root == 0 else node_at(blocks, root)
    for key in sorted(changes):
        top = _changed_once(top, key, changes[key])
    fresh = _fresh_nodes(top)
    for at, node in enumerate(fresh):
        node.place = free[at]
    return (0 if top is None else top.place, {node.place: _cells_of(node) for node in fresh})
