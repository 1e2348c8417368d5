"""Why plain deeds are refused; facts and deeds were checked."""

from everycut.plain.deeds import MAX_NAMES
from everycut.plain.deeds import MAX_NUMBERS
from everycut.plain.paths import along
from everycut.plain.paths import along_parent
from everycut.plain.paths import below
from everycut.plain.paths import entry_names
from everycut.plain.paths import is_folder
from everycut.plain.paths import node_of_path


def _make(facts, deed):
    """What is refused of making a file or a folder."""
    reason = along_parent(facts, deed[1])
    if reason is None and node_of_path(facts, deed[1]) is not None:
        return ("there", deed[1])
    return reason


def _along_file(facts, path):
    """What is refused where a path has to lead to a file."""
    reason, node = along(facts, path)
    if reason is None and is_folder(facts, node):
        return ("folder", path)
    return reason


def _write(facts, deed):
    """What is refused of a write."""
    reason = _along_file(facts, deed[1])
    if reason is None and deed[2] + len(deed[3]) > MAX_NUMBERS:
        return ("long",)
    return reason


def _cut(facts, deed):
    """What is refused of a cut."""
    return _along_file(facts, deed[1])


def _along_both(facts, deed):
    """What is refused along the path of a link or move, or along the parent of the new one."""
    reason = along(facts, deed[1])[0]
    return along_parent(facts, deed[2]) if reason is None else reason


def _link(facts, deed):
    """What is refused of a link."""
    reason = _along_both(facts, deed)
    if reason is not None:
        return reason
    if is_folder(facts, node_of_path(facts, deed[1])):
        return ("folder", deed[1])
    return None if node_of_path(facts, deed[2]) is None else ("there", deed[2])


def _drop(facts, deed):
    """What is refused of a drop."""
    reason, node = along(facts, deed[1])
    if reason is None and is_folder(facts, node) and entry_names(facts, node):
        return ("full", deed[1])
    return reason


def _move(facts, deed):
    """What is refused of a move."""
    reason = _along_both(facts, deed)
    if reason is not None or deed[1] == deed[2]:
        return reason
    node = node_of_path(facts, deed[1])
    there = node_of_path(facts, deed[2])
    if not is_folder(facts, node):
        return ("folder", deed[2]) if there is not None and is_folder(facts, there) else None
    if there is not None:
        return ("there", deed[2])
    if deed[2][:len(deed[1])] == deed[1]:
        return ("ring",)
    return ("long",) if len(deed[2]) + len(below(facts, node)) > MAX_NAMES else None


REFUSALS = {
    "make": _make,
    "folder": _make,
    "write": _write,
    "cut": _cut,
    "link": _link,
    "drop": _drop,
    "move": _move,
}


def plain_reason(facts, deed):
    """The reason for which a deed of the first seven words is refused, None if it is done."""
    look = REFUSALS[deed[0]]
    return look(facts, deed)
