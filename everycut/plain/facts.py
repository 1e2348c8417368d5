"""The forms of facts, and the faults of what is not the facts of a tree."""

from everycut.base.checks import is_number
from everycut.base.names import is_name
from everycut.plain.deeds import MAX_NUMBERS
from everycut.plain.deeds import PIECE
from everycut.plain.deeds import are_file_numbers

MOST_DOING = 10 ** 12
MOST_NODE = 16 * 10 ** 12 + 15
MOST_INDEX = 11
NOUGHTS = (0, 0, 0, 0, 0, 0, 0, 0)


def _is_node(value):
    """Whether the value is the number of a node other than the top folder."""
    return is_number(value, 1, MOST_NODE)


def is_fact_key(value):
    """Whether the value is a key that a fact can have."""
    if not isinstance(value, tuple) or len(value) not in (2, 3):
        return False
    word = value[0]
    if len(value) == 2:
        return word in ("kind", "size") and _is_node(value[1])
    if word == "name":
        return is_number(value[1], 0, MOST_NODE) and is_name(value[2])
    return word == "piece" and _is_node(value[1]) and is_number(value[2], 0, MOST_INDEX)


def is_fact_value(key, value):
    """Whether the value has the form of those of the facts with a key, which was checked."""
    word = key[0]
    if word == "kind":
        return value in ("folder", "file")
    if word == "name":
        return _is_node(value)
    if word == "size":
        return is_number(value, 0, MAX_NUMBERS)
    return are_file_numbers(value, PIECE, PIECE)


def are_forms(value):
    """Whether the value is a dict with keys and values of the forms of facts alone."""
    if not isinstance(value, dict):
        return False
    return all([is_fact_key(key) and is_fact_value(key, fact) for key, fact in value.items()])


def kinds_in(facts):
    """The dict from the nodes that have a kind to these kinds."""
    return {key[1]: kind for key, kind in facts.items() if key[0] == "kind"}


def _wrong_names(facts, kinds):
    """The keys of the entries that are wrong, ascending."""
    found = []
    seen = {}
    for key in sorted([key for key in facts if key[0] == "name"]):
        node = facts[key]
        is_in_folder = key[1] == 0 or kinds.get(key[1]) == "folder"
        is_second = kinds.get(node) == "folder" and node in seen
        if not is_in_folder or node not in kinds or is_second:
            found.append(key)
        seen[node] = True
    return found


def _wrong_kinds(facts, kinds):
    """The keys of the kinds of nodes without an entry."""
    entered = {node: True for key, node in facts.items() if key[0] == "name"}
    return [("kind", node) for node in kinds if node not in entered]


def _wrong_sizes(facts, kinds):
    """The keys of the sizes of what is no file."""
    return [key for key in facts if key[0] == "size" and kinds.get(key[1]) != "file"]


def _wrong_pieces(facts, kinds):
    """The keys of the pieces of what is no file, that are all 0, or reach behind the size."""
    found = []
    for key, numbers in facts.items():
        if key[0] == "piece":
            held = max(0, facts.get(("size", key[1]), MAX_NUMBERS) - PIECE * key[2])
            if kinds.get(key[1]) != "file" or numbers == NOUGHTS or any(numbers[held:]):
                found.append(key)
    return found


def _lacking_sizes(facts, kinds):
    """The faults of the files without a size."""
    return [("nosize", node) for node, kind in kinds.items() if kind == "file" and ("size", node) not in facts]


def astray(folders, parents):
    """Those of some folders that do not come from the top one; parents are the folders of their entries."""
    known = {0: True}
    for folder in folders:
        trail = {}
        node = folder
        while node is not None and node not in known and node not in trail:
            trail[node] = True
            node = parents.get(node)
        # A trail that ends, or comes back to itself, leads to no top.
        comes = known.get(node, False)
        for node in trail:
            known[node] = comes
    return [folder for folder in folders if not known[folder]]


def _wrong_rings(facts, kinds):
    """The faults of the folders that do not come from the top one; each has just one entry."""
    parents = {node: key[1] for key, node in facts.items() if key[0] == "name"}
    folders = [node for node, kind in kinds.items() if kind == "folder"]
    return [("ring", node) for node in astray(folders, parents)]


def fault_of(value):
    """The first fault for which the value is not the facts of a tree, None if it is."""
    if not are_forms(value):
        return ("form",)
    kinds = kinds_in(value)
    found = _wrong_names(value, kinds) or _wrong_kinds(value, kinds) or _wrong_sizes(value, kinds)
    # Rings are looked for where all entries are right.
    found = found or _wrong_pieces(value, kinds) or _lacking_sizes(value, kinds) or _wrong_rings(value, kinds)
    return min(found) if found else None
