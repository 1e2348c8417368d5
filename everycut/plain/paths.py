"""Where paths lead among the facts of a tree; all was checked."""


def is_folder(facts, node):
    """Whether a node of the tree is a folder."""
    return node == 0 or facts[("kind", node)] == "folder"


def along(facts, path):
    """The pair of what is refused along a path, None if it leads to a node, and of this node."""
    node = 0
    for at in range(len(path)):
        if not is_folder(facts, node):
            return (("file", path[:at]), None)
        node = facts.get(("name", node, path[at]))
        if node is None:
            return (("gone", path[:at + 1]), None)
    return (None, node)


def along_parent(facts, path):
    """What is refused along the parent of a path, None if it leads to a folder."""
    parent = path[:-1]
    reason, node = along(facts, parent)
    if reason is None and not is_folder(facts, node):
        return ("file", parent)
    return reason


def node_of_path(facts, path):
    """The node to which a path leads, None if it leads to none."""
    return along(facts, path)[1]


def keys_along(facts, path):
    """The keys of the entries of a path whose parent leads to a folder."""
    folder = 0
    found = []
    for name in path:
        found.append(("name", folder, name))
        folder = facts.get(found[-1])
    return found


def entry_key(facts, path):
    """The key of the entry at the end of a path whose parent leads to a folder."""
    return keys_along(facts, path)[-1]


def entry_names(facts, folder):
    """The ascending names of the entries of a folder."""
    return sorted([key[2] for key in facts if key[0] == "name" and key[1] == folder])


def below(facts, node):
    """The levels of nodes below a node: its entries' nodes, then those of these ones' entries, and so on."""
    levels = []
    level = [node]
    while level:
        level = [facts[key] for key in facts if key[0] == "name" and key[1] in level]
        if level:
            levels.append(level)
    return levels


def folders_within(facts, node):
    """The folders below a folder, and itself."""
    return [node] + [one for level in below(facts, node) for one in level if is_folder(facts, one)]
