"""What two trees differ by: deeds that lead the one to a tree that is alike to the other one."""

from everycut.plain.coding import cells_of_deed
from everycut.plain.deeds import MAX_TOGETHER
from everycut.plain.deeds import MAX_WRITTEN
from everycut.plain.deeds import is_deed
from everycut.plain.deeds import is_plain
from everycut.plain.trees import Tree
from everycut.plain.trees import check_tree
from everycut.plain.trees import done
from everycut.plain.trees import refusal

# So many deeds can be settled at once; deeds put together with so many cells fit into any log.
MOST_AT_ONCE = 40
MOST_TOGETHER_CELLS = 191


def files_of(tree):
    """The dict from the ascending paths of a tree to the nodes of files, None for folders."""
    nodes = {path: tree.node_at(path) for path in tree.paths()}
    return {path: node if tree.kind_of(node) == "file" else None for path, node in nodes.items()}


def path_lines(tree):
    """The list of what all paths tell, ascending, whatever the numbers of the nodes are.

    A path tells a triple of itself, of the least path of its file, None for a folder, and of the
    numbers of the file.
    """
    firsts = {}
    found = []
    for path, node in files_of(tree).items():
        if node is None:
            found.append((path, None, ()))
        else:
            firsts.setdefault(node, path)
            found.append((path, firsts[node], tree.numbers_of(node)))
    return found


def _are_like(one, other):
    """Whether two trees are alike."""
    return path_lines(one) == path_lines(other)


def are_alike(tree, value):
    """Whether the value is a tree that is alike to the tree."""
    check_tree(tree)
    return isinstance(value, Tree) and _are_like(tree, value)


def _kept_paths(ones, others):
    """The dict from the nodes of files of the other tree to the paths at which they keep a file of the one.

    Each file of the one tree is kept by one file of the other one at most.
    """
    used = {}
    sources = {}
    for path, node in others.items():
        source = ones.get(path)
        if node is not None and source is not None and node not in sources and source not in used:
            sources[node] = source
            used[source] = True
    found = {}
    for path, node in others.items():
        if node in sources and ones.get(path) == sources[node]:
            found.setdefault(node, []).append(path)
    return found


def _writes(path, old, new):
    """The deeds that lead a file with the old numbers to the new ones."""
    deeds = [("cut", path, len(new))] if len(new) < len(old) else []
    # What is written ahead of its end has noughts, so these need no write but at the very end.
    padded = old[:len(new)] + (0,) * (len(new) - len(old))
    unlike = [at for at in range(len(new)) if padded[at] != new[at] or (at >= len(old) and at == len(new) - 1)]
    while unlike:
        start = unlike[0]
        here = [at for at in unlike if at < start + MAX_WRITTEN]
        deeds.append(("write", path, start, new[start:here[-1] + 1]))
        unlike = unlike[len(here):]
    return deeds


def _file_deeds(other, ones, one, node, paths, kept):
    """The deeds for a file of the other tree at some ascending paths, of which some keep a file of the one tree."""
    new = other.numbers_of(node)
    if kept:
        first, deeds = kept[0], _writes(kept[0], one.numbers_of(ones[kept[0]]), new)
    else:
        first, deeds = paths[0], [("make", paths[0])] + _writes(paths[0], (), new)
    return deeds + [("link", first, path) for path in paths if path != first and path not in kept]


def _deeds_between(one, other):
    """The list of the deeds that lead the one tree to one that is alike to the other."""
    ones, others = files_of(one), files_of(other)
    kept = _kept_paths(ones, others)
    staying = {path: True for paths in kept.values() for path in paths}
    for path, node in ones.items():
        if node is None and path in others and others[path] is None:
            staying[path] = True
    # What is in a folder has a greater path than the folder.
    deeds = [("drop", path) for path in sorted(ones, reverse=True) if path not in staying]
    deeds.extend([("folder", path) for path, node in others.items() if node is None and path not in staying])
    paths = {}
    for path, node in others.items():
        if node is not None:
            paths.setdefault(node, []).append(path)
    for node in paths:
        deeds.extend(_file_deeds(other, ones, one, node, paths[node], kept.get(node, [])))
    return deeds


def _together(deeds):
    """The deeds, put together where they are many, so that more of them can be settled at once."""
    if len(deeds) <= MOST_AT_ONCE:
        return deeds
    groups = [[]]
    for deed in deeds:
        cells = 2 + sum([len(cells_of_deed(there)) for there in groups[-1] + [deed]])
        if len(groups[-1]) == MAX_TOGETHER or cells > MOST_TOGETHER_CELLS:
            groups.append([])
        groups[-1].append(deed)
    return [group[0] if len(group) == 1 else ("all", tuple(group)) for group in groups]


def difference(one, other):
    """Plain deeds that lead the one tree to one that is alike to the other."""
    check_tree(one)
    check_tree(other)
    return tuple(_together(_deeds_between(one, other)))


def _renumbered(tree):
    """A tree alike to a tree, without shots, whose nodes have the numbers from 1 on."""
    facts = tree.facts
    news = {key[1]: at + 1 for at, key in enumerate([key for key in facts if key[0] == "kind"])}
    news[0] = 0
    found = {}
    for key, fact in facts.items():
        found[(key[0], news[key[1]]) + key[2:]] = news[fact] if key[0] == "name" else fact
    return Tree.of_facts(found)


def is_difference(one, other, value):
    """Whether the value is a tuple of plain deeds that lead the one tree to one that is alike to the other."""
    check_tree(one)
    check_tree(other)
    if not isinstance(value, tuple) or not all([is_deed(deed) and is_plain(deed) for deed in value]):
        return False
    # Great numbers of nodes could leave none for the deeds; just paths and numbers count here.
    tree = _renumbered(one)
    first = len(tree)
    for at, deed in enumerate(value):
        if refusal(tree, first + at, deed) is not None:
            return False
        tree = done(tree, first + at, deed)
    return _are_like(tree, other)
