"""Facts in whatever company, mended to the facts of a tree."""

from everycut.base.names import LETTERS
from everycut.errors import InvalidTree
from everycut.plain.deeds import PIECE
from everycut.plain.facts import NOUGHTS
from everycut.plain.facts import are_forms
from everycut.plain.facts import astray
from everycut.plain.facts import kinds_in

LIFTED = "lost"


def are_fact_forms(value):
    """Whether the value is a dict with keys and values of the forms of facts alone."""
    return are_forms(value)


def mended_facts(value):
    """The facts of a tree that are made of facts in whatever company."""
    if not are_forms(value):
        raise InvalidTree("not facts")
    kinds = _mended_kinds(value)
    found = {("kind", node): kind for node, kind in kinds.items()}
    for key, node in _mended_entries(kinds, _kept_entries(value, kinds)).items():
        found[key] = node
    for node, kind in kinds.items():
        if kind == "file":
            for key, fact in _mended_file(value, node).items():
                found[key] = fact
    return {key: found[key] for key in sorted(found)}


def _mended_kinds(facts):
    """The dict from the nodes that have a kind, told or not, to these kinds."""
    kinds = kinds_in(facts)
    for key in facts:
        if key[0] in ("size", "piece"):
            kinds.setdefault(key[1], "file")
    for key in facts:
        if key[0] == "name" and key[1] != 0:
            kinds.setdefault(key[1], "folder")
    return kinds


def _kept_entries(facts, kinds):
    """The dict from the keys of the entries that are kept to their nodes."""
    kept = {}
    entered = {}
    for key in sorted([key for key in facts if key[0] == "name"]):
        node = facts[key]
        is_in_folder = key[1] == 0 or kinds.get(key[1]) == "folder"
        is_second = kinds.get(node) == "folder" and node in entered
        if is_in_folder and node in kinds and not is_second:
            kept[key] = node
            entered[node] = True
    return kept


def _folders_to_lift(kinds, kept):
    """The folders that are lifted, in their sequence."""
    parents = {node: key[1] for key, node in kept.items() if kinds[node] == "folder"}
    folders = sorted([node for node, kind in kinds.items() if kind == "folder"])
    # Lifting a folder gives no other one an entry, and takes none: those without one come first.
    found = [node for node in folders if node not in parents]
    for node in found:
        parents[node] = 0
    stray = astray(folders, parents)
    while stray:
        found.append(stray[0])
        parents[stray[0]] = 0
        stray = astray(stray, parents)
    return found


def _mended_entries(kinds, kept):
    """The entries that are kept, and those of the nodes that are lifted."""
    folders = {node: True for node in _folders_to_lift(kinds, kept)}
    left = {key: node for key, node in kept.items() if node not in folders}
    entered = {node: True for node in left.values()}
    files = sorted([node for node, kind in kinds.items() if kind == "file" and node not in entered])
    count = 0
    for node in list(folders) + files:
        while ("name", 0, _lifted_name(count)) in left:
            count += 1
        left[("name", 0, _lifted_name(count))] = node
    return left


def _lifted_name(count):
    """The name that comes behind so many others: losta to lostz, lostaa to lostzz, and so on."""
    many = len(LETTERS)
    left = count
    while left >= many:
        left = left - many
        many = many * len(LETTERS)
    letters = ""
    while many > 1:
        letters = LETTERS[left % len(LETTERS)] + letters
        left = left // len(LETTERS)
        many = many // len(LETTERS)
    return LIFTED + letters


def _reach(key, numbers):
    """How many numbers a file has at least whose piece with this key has these numbers."""
    return max([0] + [PIECE * key[2] + at + 1 for at, number in enumerate(numbers) if number != 0])


def _mended_file(facts, node):
    """The size and the pieces of a file."""
    pieces = {key: fact for key, fact in facts.items() if key[0] == "piece" and key[1] == node}
    size = facts.get(("size", node))
    if size is None:
        size = max([0] + [_reach(key, numbers) for key, numbers in pieces.items()])
    found = {("size", node): size}
    for key, numbers in pieces.items():
        held = numbers[:max(0, size - PIECE * key[2])]
        if any(held):
            found[key] = held + NOUGHTS[len(held):]
    return found
