"""Volumes: a tree on a pair, with a log of the deeds of this turn."""

from everycut.base.checks import check_number
from everycut.errors import InvalidDeed
from everycut.errors import InvalidDisk
from everycut.errors import Refused
from everycut.errors import TooMany
from everycut.keep.heads import HEADS
from everycut.keep.heads import LEAST_SHELF
from everycut.keep.heads import found_head
from everycut.keep.heads import next_head
from everycut.keep.log import Log
from everycut.keep.log import record_parts
from everycut.keep.shots import head_on
from everycut.keep.standing import Standing
from everycut.keep.standing import records_on
from everycut.keep.standing import tree_meant
from everycut.keep.turns import mend_unlike
from everycut.keep.turns import ready_log
from everycut.keep.turns import shelf_plan
from everycut.keep.turns import write_turn
from everycut.outside.pairs import check_pair
from everycut.plain.deeds import check_deed
from everycut.plain.deeds import is_deed
from everycut.plain.trees import Tree
from everycut.plain.trees import done
from everycut.plain.trees import growth
from everycut.plain.trees import refusal
from everycut.plain.waits import Doings
from everycut.rows.room import is_room

LEAST_LOG = 4
MAX_LOG = 40

MOST_SETTLED = 40


def made(pair, log):
    """The volume of the empty tree on a pair, with so many blocks of log."""
    check_pair(pair)
    check_number(log, LEAST_LOG, MAX_LOG)
    if pair.size < HEADS + log + LEAST_SHELF:
        raise TooMany(log)
    found = found_head(pair)
    last = 0 if found is None else found[0]
    head = (last + 1, log, 1, 0, ())
    ready_log(pair, log, last)
    write_turn(pair, head, {})
    return Volume(pair, head, Tree())


def meaning(pair):
    """The tree that a pair means; nothing is written."""
    head = head_on(pair)
    return tree_meant(Standing(pair, head), records_on(pair, head)[0])


def mount(pair):
    """The volume that lies on a pair, mounted."""
    head = head_on(pair)
    standing = Standing(pair, head)
    deeds, number = records_on(pair, head)
    tree = tree_meant(standing, deeds)
    root, shots, fresh = shelf_plan(standing, tree, standing.free(pair.size))
    if not pair.is_flushed:
        pair.flush()
    for at in [head[0] % HEADS] + standing.reached():
        mend_unlike(pair, at)
    ready_log(pair, head[1], head[0])
    following = next_head(pair.size, head, number, root, shots)
    write_turn(pair, following, fresh)
    return Volume(pair, following, tree)


class Volume:
    """A tree that is kept on a pair; the disks change with it."""

    def __init__(self, pair, head, tree):
        self._pair = pair
        self._begin(head, tree)

    def _begin(self, head, tree):
        """A turn begins, whose head and tree are written."""
        self._head = head
        self._next = head[2]
        self._doings = Doings(tree)
        self._records = Log(self._pair, head[1], head[0])
        # What the room is asked with: the numbers of facts at this turn, of all
        # shots since then, also of those that are gone, and of what has grown.
        self._first = len(tree.facts)
        self._held = [tree.shot(name).rows for name in tree.shots]
        self._grown = 0

    @property
    def pair(self):
        """The pair on which the volume lies."""
        return self._pair

    @property
    def tree(self):
        """The tree behind all deeds."""
        return self._doings.tree

    @property
    def log(self):
        """The number of the blocks of the log."""
        return self._head[1]

    @property
    def turns(self):
        """The number of the turn."""
        return self._head[0]

    @property
    def number(self):
        """The number of the next deed."""
        return self._next

    @property
    def deeds(self):
        """The dict from the numbers of the deeds of this turn to these."""
        return self._doings.deeds

    @property
    def waits(self):
        """The dict from the numbers of the deeds of this turn to the numbers for which they wait."""
        return self._doings.waits

    @property
    def synced(self):
        """The ascending tuple of the numbers of those deeds of this turn that were synced."""
        return self._records.synced

    def records_log(self):
        """The log of this turn."""
        return self._records

    def tree_of(self, lot):
        """The tree behind a lower lot of the deeds of this turn; raises InvalidOperation for all else."""
        return self._doings.tree_of(lot)

    def _fits(self, shots, rows):
        """Whether there is room for some further shots and for so many rows, besides what is there."""
        shelf = self._pair.size - HEADS - self._head[1]
        return is_room(shelf, self._held + shots, self._first, rows)

    def _has_room(self, deed):
        """Whether there is room for a deed that is not refused."""
        grown = growth(self._doings.tree, self._next, deed)
        if grown == 0:
            return True
        if deed[0] == "snap":
            return self._fits([grown], self._first + self._grown)
        return self._fits([], self._first + self._grown + grown)

    def _parts(self, waits, deed):
        """How many blocks of the log the record of a deed has."""
        return len(record_parts((self._head[0], self._next, waits, deed)))

    def do(self, deed):
        """Does a deed."""
        check_deed(deed)
        reason = refusal(self._doings.tree, self._next, deed)
        if reason is not None:
            raise Refused(reason)
        if self._parts((), deed) > self._head[1]:
            raise Refused(("log",))
        if not self._has_room(deed):
            self.turn()
            if not self._has_room(deed):
                raise Refused(("room",))
        # Behind a turn a record has no waits, so that the log has room for it.
        if self._records.left == 0 or self._parts(self._doings.ahead_of(self._next, deed), deed) > self._records.left:
            self.turn()
        self._do_put(deed)

    def _do_put(self, deed):
        """Does a deed that is not refused, and for whose record the log has room."""
        grown = growth(self._doings.tree, self._next, deed)
        if deed[0] == "snap":
            self._held.append(grown)
        else:
            self._grown += grown
        waits = self._doings.add(self._next, deed)
        self._records.put(self._next, waits, deed)
        self._next += 1

    def settle(self, deeds):
        """Does a row of deeds at once, as one turn."""
        if not isinstance(deeds, tuple) or not 1 <= len(deeds) <= MOST_SETTLED:
            raise InvalidDeed("not a tuple of 1 to 40 deeds")
        if not all([is_deed(deed) for deed in deeds]):
            raise InvalidDeed("not a deed")
        tree = self._doings.tree
        snaps = []
        for at, deed in enumerate(deeds):
            behind = done(tree, self._next + at, deed)
            if deed[0] == "snap":
                snaps.append(len(tree.facts))
            tree = behind
        if not self._fits(snaps, len(tree.facts)):
            self.turn()
            if not self._fits(snaps, len(tree.facts)):
                raise Refused(("room",))
        self._write_turn(tree, self._next + len(deeds))

    def sync(self):
        """Flushes both disks: all deeds are settled behind it."""
        self._records.sync()

    def turn(self):
        """Writes the tree itself, and lets the log begin anew."""
        self._write_turn(self._doings.tree, self._next)

    def _write_turn(self, tree, number):
        """Writes a turn with some tree, and the number of the next deed."""
        standing = Standing(self._pair, self._head)
        root, shots, fresh = shelf_plan(standing, tree, standing.free(self._pair.size))
        head = next_head(self._pair.size, self._head, number, root, shots)
        write_turn(self._pair, head, fresh)
        self._begin(head, tree)

    def __eq__(self, value):
        return isinstance(value, Volume) and self.tree == value.tree and self._pair == value._pair

    def __len__(self):
        return len(self._doings.deeds)

    def __str__(self):
        return f"turn {self._head[0]}, {len(self)} deeds, {len(self._records.synced)} synced"


def check_volume(volume):
    """Raises InvalidDisk unless the value is a volume."""
    if not isinstance(volume, Volume):
        raise InvalidDisk("not a volume")
