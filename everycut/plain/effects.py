"""What plain deeds read and set, and the facts behind them; all was checked, and is done."""

from everycut.plain.deeds import PIECE
from everycut.plain.deeds import parts_of
from everycut.plain.facts import NOUGHTS
from everycut.plain.paths import entry_key
from everycut.plain.paths import folders_within
from everycut.plain.paths import is_folder
from everycut.plain.paths import keys_along
from everycut.plain.paths import node_of_path
from everycut.plain.refusals import plain_reason


def file_numbers(facts, node):
    """The list of the numbers of a file."""
    size = facts[("size", node)]
    found = []
    for index in range((size + PIECE - 1) // PIECE):
        found.extend(facts.get(("piece", node, index), NOUGHTS))
    return found[:size]


def _pieces(node, numbers, low, high):
    """What the pieces with some indices are set to, behind which a file has these numbers."""
    found = {}
    for index in range(low, high):
        piece = tuple(numbers[PIECE * index:PIECE * (index + 1)])
        piece = piece + NOUGHTS[len(piece):]
        found[("piece", node, index)] = None if piece == NOUGHTS else piece
    return found


def _make_sets(facts, deed, made):
    """What making a file or a folder sets."""
    key = entry_key(facts, deed[1])
    if deed[0] == "folder":
        return {key: made, ("kind", made): "folder"}
    return {key: made, ("kind", made): "file", ("size", made): 0}


def _write_sets(facts, deed, made):
    """What a write sets; it makes no node."""
    node = node_of_path(facts, deed[1])
    numbers = file_numbers(facts, node)
    size, start, end = len(numbers), deed[2], deed[2] + len(deed[3])
    padded = numbers + [0] * max(0, start - size)
    behind = padded[:start] + list(deed[3]) + padded[end:]
    found = _pieces(node, behind, start // PIECE, (end + PIECE - 1) // PIECE)
    if end > size:
        found[("size", node)] = end
    return found


def _cut_sets(facts, deed, made):
    """What a cut sets; it makes no node."""
    node = node_of_path(facts, deed[1])
    size = facts[("size", node)]
    if deed[2] >= size:
        return {}
    behind = file_numbers(facts, node)[:deed[2]]
    found = _pieces(node, behind, deed[2] // PIECE, (size + PIECE - 1) // PIECE)
    found[("size", node)] = deed[2]
    return found


def _link_sets(facts, deed, made):
    """What a link sets; it makes no node."""
    return {entry_key(facts, deed[2]): node_of_path(facts, deed[1])}


def _drop_sets(facts, deed, made):
    """What a drop sets; it makes no node."""
    return {entry_key(facts, deed[1]): None}


def _move_sets(facts, deed, made):
    """What a move sets; it makes no node."""
    if deed[1] == deed[2]:
        return {}
    return {entry_key(facts, deed[1]): None, entry_key(facts, deed[2]): node_of_path(facts, deed[1])}


SETS = {
    "make": _make_sets,
    "folder": _make_sets,
    "write": _write_sets,
    "cut": _cut_sets,
    "link": _link_sets,
    "drop": _drop_sets,
    "move": _move_sets,
}


def part_sets(facts, deed, made):
    """The dict from the keys that a deed of the first seven words sets to their values."""
    look = SETS[deed[0]]
    return look(facts, deed, made)


def _pieces_read(deed, node, size):
    """The keys of the pieces of which a write or cut keeps some places."""
    if deed[0] == "cut":
        is_amid = deed[2] < size and deed[2] % PIECE > 0
        return [("piece", node, deed[2] // PIECE)] if is_amid else []
    start, end = deed[2], deed[2] + len(deed[3])
    indices = range(start // PIECE, (end + PIECE - 1) // PIECE)
    # A piece is put whole if it begins not ahead of the numbers, and ends not behind them.
    return [("piece", node, at) for at in indices if PIECE * at < start or PIECE * (at + 1) > end]


def part_reads(facts, deed):
    """The keys that a deed of the first seven words reads."""
    found = keys_along(facts, deed[1])
    if deed[0] in ("link", "move"):
        found.extend(keys_along(facts, deed[2]))
    if deed[0] in ("make", "folder", "link"):
        return found
    node = node_of_path(facts, deed[1])
    if deed[0] in ("write", "cut"):
        return found + [("size", node)] + _pieces_read(deed, node, facts[("size", node)])
    if not is_folder(facts, node) or (deed[0] == "move" and deed[1] == deed[2]):
        return found
    folders = [node] if deed[0] == "drop" else folders_within(facts, node)
    return found + [("names", folder) for folder in folders]


def facts_with(facts, values):
    """The facts, with values of some keys, None for those that are gone; what has no entry any more is gone."""
    behind = {key: fact for key, fact in facts.items() if values.get(key, fact) is not None}
    for key, value in values.items():
        if value is not None:
            behind[key] = value
    left = [facts[key] for key in values if key[0] == "name" and facts.get(key) not in (None, values[key])]
    entered = [behind[key] for key in behind if key[0] == "name" and behind[key] in left]
    gone = [node for node in left if node not in entered]
    if not gone:
        return behind
    return {key: fact for key, fact in behind.items() if key[0] == "name" or key[1] not in gone}


def stages(facts, number, deed):
    """The reason, None if it is done, for which a plain deed is refused; and the list of its stages.

    A stage is a triple of the facts ahead of a part of the deed, of this part, and of the node that
    it would make; the last stage, those behind all parts, has no part.
    """
    found = []
    ahead = facts
    for at, (part, made) in enumerate(parts_of(number, deed)):
        reason = plain_reason(ahead, part)
        if reason is not None:
            return (("all", at, reason) if deed[0] == "all" else reason, found)
        found.append((ahead, part, made))
        ahead = facts_with(ahead, part_sets(ahead, part, made))
    return (None, found + [(ahead, None, None)])
