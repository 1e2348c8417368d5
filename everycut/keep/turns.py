"""Turns: how the trees of a turn are put on the shelf, and a new head behind them."""

from everycut.errors import NoRoom
from everycut.keep.heads import HEADS
from everycut.keep.heads import write_head
from everycut.plain.coding import rows_of_tree
from everycut.rows.growing import grown
from everycut.rows.trees import most_blocks


class Shelf:
    """What a turn puts on the shelf: fresh nodes at free places, beside nodes that stay."""

    def __init__(self, standing, free):
        self.blocks = {place: cells for place, cells in standing.blocks.items()}
        self.spare = free
        self.fresh = {}
        # Sound search trees from which others are grown: the names, roots and rows.
        self.grounds = [("", 0, {})]
        for name, scan in standing.scans.items():
            if not scan.faults:
                self.grounds.append((name, standing.roots[name], {key: value for key, value in scan.taken}))

    def root_of(self, name, rows):
        """The root below which some rows stand from now on; raises NoRoom."""
        wanted = {key: value for key, value in rows}
        # The tree's own elder root comes first, so that what has not changed stays where it is.
        own = [ground for ground in self.grounds if ground[0] == name]
        root, unlike = _nearest(own + self.grounds, wanted)
        if not unlike:
            return root
        most = most_blocks(len(wanted))
        if len(self.spare) < most:
            raise NoRoom(most)
        top, nodes = grown(self.blocks, root, unlike, self.spare)
        for place, cells in nodes.items():
            self.blocks[place] = cells
            self.fresh[place] = cells
        self.spare = [place for place in self.spare if place not in nodes]
        self.grounds.append((name, top, wanted))
        return top


def _unlike_rows(before, behind):
    """The changes that lead some rows to others, dicts from keys to values."""
    both = {**before, **behind}
    return {key: behind.get(key) for key in both if before.get(key) != behind.get(key)}


def _nearest(grounds, wanted):
    """The root of those rows which the fewest changes lead to the wanted ones, and these changes."""
    best = None
    for _, root, rows in grounds:
        unlike = _unlike_rows(rows, wanted)
        if best is None or len(unlike) < len(best[1]):
            best = (root, unlike)
    return best


def shelf_plan(standing, tree, free):
    """The root of a tree, its shots with their roots, and the dict of the fresh nodes for all these.

    Raises NoRoom if the free places are too few.
    """
    shelf = Shelf(standing, free)
    shots = tuple([(name, shelf.root_of(name, rows_of_tree(tree.shot(name)))) for name in tree.shots])
    root = shelf.root_of(None, rows_of_tree(tree))
    return (root, shots, shelf.fresh)


def mend_unlike(pair, at):
    """Mends a place if a whole block is told there, and its copies are unlike; returns whether it was so."""
    if pair.read_block(at)[0] != "whole" or not pair.unlike(at):
        return False
    pair.mend(at)
    return True


def ready_log(pair, log, last):
    """Mends what is whole in the log; blocks that bear a turn above the last one are left without cells."""
    for at in range(HEADS, HEADS + log):
        mend_unlike(pair, at)
        told = pair.read_block(at)
        if told[0] == "whole" and told[2] and told[2][0] > last:
            pair.write_block(at, ())


def write_turn(pair, head, fresh):
    """Writes the fresh nodes of a turn, and behind a flush its head, which is flushed."""
    for place, cells in fresh.items():
        pair.write_block(place, cells)
    # With unlike copies at its seat the new head, cut, could uncover an elder block that was not told.
    mend_unlike(pair, head[0] % HEADS)
    pair.flush()
    write_head(pair, head)
    pair.flush()
