"""What stands under the head that is found on a pair, and the tree that the pair means."""

from everycut.errors import Refused
from everycut.keep.heads import HEADS
from everycut.keep.log import read_log
from everycut.keep.log import taken_of
from everycut.keep.shots import shelf_blocks
from everycut.plain.coding import facts_told
from everycut.plain.coding import fault_of_rows
from everycut.plain.trees import done
from everycut.plain.trees import refusal
from everycut.plain.trees import tree_with
from everycut.rows.nodes import scanned


class Standing:
    """The blocks of the shelf of a pair, and the scans below the roots of a head.

    The scans have the names of the shots as keys, ascending, behind None for the tree itself.
    """

    def __init__(self, pair, head):
        self.head = head
        self.blocks = shelf_blocks(pair, head[1])
        self.roots = {None: head[3]}
        for name, root in head[4]:
            self.roots[name] = root
        self.scans = {name: scanned(self.blocks, root) for name, root in self.roots.items()}

    def reached(self):
        """The ascending list of the places of all nodes that are taken."""
        found = {place: True for scan in self.scans.values() for place in scan.places}
        return sorted(found)

    def free(self, size):
        """The list of the places of the shelf that no root reaches."""
        reached = self.reached()
        return [place for place in range(HEADS + self.head[1], size) if place not in reached]


def _sound_facts(scan):
    """The facts below a root; raises Refused with the first fault, if they are not those of a tree."""
    fault = scan.faults[0] if scan.faults else fault_of_rows(scan.taken)
    if fault is not None:
        raise Refused(("rows", fault))
    return facts_told(scan.taken)[0]


def records_on(pair, head):
    """The pair of the taken records, a dict from ascending numbers to deeds, and of the number of the next deed."""
    records = read_log(pair, head[1], head[0])
    deeds = {number: records[number][1] for number in taken_of(records)}
    return (deeds, max([head[2]] + [number + 1 for number in deeds]))


def tree_meant(standing, deeds):
    """The tree of what stands, behind some deeds; raises Refused if there is none, or a deed is refused."""
    tree = tree_with({name: _sound_facts(scan) for name, scan in standing.scans.items()})
    for number, deed in deeds.items():
        if refusal(tree, number, deed) is not None:
            raise Refused(("deed", number))
        tree = done(tree, number, deed)
    return tree
