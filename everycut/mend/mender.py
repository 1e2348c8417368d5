"""What lies on a pair of disks: uses and faults of its blocks, and how these are mended."""

from everycut.errors import InvalidOperation
from everycut.keep.heads import HEADS
from everycut.keep.heads import next_head
from everycut.keep.log import read_parts
from everycut.keep.shots import head_on
from everycut.keep.standing import Standing
from everycut.keep.standing import records_on
from everycut.keep.turns import mend_unlike
from everycut.keep.turns import ready_log
from everycut.keep.turns import shelf_plan
from everycut.keep.turns import write_turn
from everycut.mend.facts import mended_facts
from everycut.outside.pairs import check_pair
from everycut.plain.coding import facts_told
from everycut.plain.coding import fault_of_rows
from everycut.plain.deeds import is_plain
from everycut.plain.deeds import parts_of
from everycut.plain.trees import done
from everycut.plain.trees import refusal
from everycut.plain.trees import tree_with
from everycut.rows.nodes import node_in_cells


def _standing_on(pair):
    """What stands under the head that is found; raises the errors of the pair."""
    check_pair(pair)
    if not pair.is_flushed:
        raise InvalidOperation("the pair has rows")
    return Standing(pair, head_on(pair))


def uses(pair):
    """The tuple of the uses of all blocks."""
    standing = _standing_on(pair)
    shelf = HEADS + standing.head[1]
    reached = standing.reached()
    found = ["rows" if at in reached else "free" for at in range(shelf, pair.size)]
    return tuple(["head"] * HEADS + ["log"] * (shelf - HEADS) + found)


def _needed(pair, standing):
    """The ascending list of the places of the blocks that are needed."""
    parts = read_parts(pair, standing.head[1], standing.head[0])
    return [standing.head[0] % HEADS] + parts + standing.reached()


def _unlike_places(pair, standing):
    """The ascending list of the needed places with unlike copies."""
    return [at for at in _needed(pair, standing) if pair.unlike(at)]


def _node_faults(standing):
    """The faults of nodes, each once, by places and words."""
    found = {(at, word): True for scan in standing.scans.values() for word, at in scan.faults}
    return [(word, at) for at, word in sorted(found)]


def _row_faults(standing):
    """The faults of the rows that are told under the roots, by names."""
    found = []
    for name, scan in standing.scans.items():
        fault = fault_of_rows(scan.taken)
        if fault is not None:
            found.append(("rows", "" if name is None else name, fault))
    return found


def _faults(pair, standing):
    """The list of all faults, those of copies first."""
    copies = [("copies", at) for at in _unlike_places(pair, standing)]
    return copies + _node_faults(standing) + _row_faults(standing)


def faults(pair):
    """The tuple of all faults of a pair."""
    return tuple(_faults(pair, _standing_on(pair)))


def is_sound(pair):
    """Whether a pair has no faults."""
    return faults(pair) == ()


def _makes_again(tree, number, deed):
    """Whether a deed would make a node that is there."""
    if not is_plain(deed):
        return False
    makers = [node for part, node in parts_of(number, deed) if part[0] in ("make", "folder")]
    return any([tree.kind_of(node) is not None for node in makers])


def _mended_tree(standing, deeds):
    """The tree of the mended facts below all roots, behind those deeds that can be done."""
    told = {name: facts_told(scan.taken)[0] for name, scan in standing.scans.items()}
    tree = tree_with({name: mended_facts(facts) for name, facts in told.items()})
    for number, deed in deeds.items():
        if not _makes_again(tree, number, deed) and refusal(tree, number, deed) is None:
            tree = done(tree, number, deed)
    return tree


def _told_places(standing):
    """The places that the head, or any node below its roots tells, whether that is taken or not."""
    found = {}
    waiting = list(standing.roots.values())
    while waiting:
        place = waiting.pop()
        if place not in found:
            found[place] = True
            node = node_in_cells(standing.blocks.get(place, ()))
            if node is not None and node[0] > 0:
                waiting.extend([value[0] for key, value in node[1]])
    return found


def _rewrite(pair, standing):
    """The plan of a turn that writes all that is mended: its head and its fresh nodes; raises NoRoom."""
    head = standing.head
    deeds, number = records_on(pair, head)
    told = _told_places(standing)
    free = [place for place in range(HEADS + head[1], pair.size) if place not in told]
    root, shots, fresh = shelf_plan(standing, _mended_tree(standing, deeds), free)
    return (next_head(pair.size, head, number, root, shots), fresh)


def mend(pair):
    """Mends a pair, and returns the faults that it had."""
    standing = _standing_on(pair)
    found = _faults(pair, standing)
    copies = [fault[1] for fault in found if fault[0] == "copies"]
    # The places for a turn are looked for ahead of all writing: without room nothing is written.
    plan = None if len(found) == len(copies) else _rewrite(pair, standing)
    for at in copies:
        mend_unlike(pair, at)
    if copies:
        pair.flush()
    if plan is not None:
        ready_log(pair, standing.head[1], standing.head[0])
        write_turn(pair, plan[0], plan[1])
    return tuple(found)


def mended(pair):
    """A copied pair, mended."""
    check_pair(pair)
    twin = pair.copied()
    mend(twin)
    return twin
