"""Volumes for the tests: a plain account of them, cuts and losses, and pairs written block by block."""

import os

from helpers import Arg
from pair_helpers import lose_some
from plain_helpers import model_of, some_deed
from tree_helpers import node_cells, random_tree, slow_counts
from everycut.errors import InvalidDisk, Refused, Stopped
from everycut.keep.heads import write_head
from everycut.keep.log import record_parts
from everycut.keep.volumes import Volume, made
from everycut.outside.pairs import fresh_pair
from everycut.plain.coding import deed_cells, rows_of_tree
from everycut.plain.trees import Tree, done, growth, refusal
from everycut.plain.waits import Doings, lower_lots

# More rounds than CI has time for, if wanted: ROUNDS=20 python3 -m unittest ..
ROUNDS = int(os.environ.get("ROUNDS", "1"))


def seeds(first, many):
    """The seeds from the first one on, as many as told in each round."""
    return range(first, first + many * ROUNDS)


def most_nodes(many):
    """W of stage 6."""
    return sum(slow_counts(many))


def full_model(tree):
    """The model of a tree with its shots."""
    model = model_of(tree)
    for name in tree.shots:
        shot = model_of(tree.shot(name))
        model.shots[name] = (shot.paths, shot.files)
    return model


def drawn_deed(rng, tree, names="abc", bars=2, tries=6):
    """A deed for a tree, refused at times."""
    model = full_model(tree)
    for _ in range(tries):
        deed = some_deed(rng, model, names, bars)
        if model.reason(deed) is None:
            break
    return deed


def drawn_row(rng, tree, number, many, bars=2):
    """At most so many deeds that can be done to a tree one after the other, with numbers from one on."""
    found = []
    for _ in range(many):
        deed = drawn_deed(rng, tree, bars=bars)
        if refusal(tree, number, deed) is None:
            found.append(deed)
            tree = done(tree, number, deed)
            number += 1
    return found, tree


class Account:
    """What is said of a volume in stage 13, told plainly, beside no disks."""

    def __init__(self, size, log, tree=None, number=1, turns=1):
        self.size, self.log, self.turns = size, log, turns
        self.begin(Tree() if tree is None else tree, number)

    def begin(self, tree, number):
        self.doings, self.number, self.left, self.synced = Doings(tree), number, self.log, ()
        self.first, self.grown = len(tree.facts), 0
        self.shots = [len(tree.shot(name).facts) for name in tree.shots]

    @property
    def tree(self):
        return self.doings.tree

    def turn(self):
        self.turns += 1
        self.begin(self.tree, self.number)

    def sync(self):
        self.synced = tuple(self.doings.deeds)

    def fits(self, shots, rows):
        held = sum(most_nodes(many) for many in self.shots + shots)
        return held + most_nodes(rows) + most_nodes(max(rows, self.first)) <= self.size - 2 - self.log

    def fits_deed(self, deed):
        grown = growth(self.tree, self.number, deed)
        if deed[0] == "snap":
            return grown == 0 or self.fits([grown], self.first + self.grown)
        return grown == 0 or self.fits([], self.first + self.grown + grown)

    def do(self, deed):
        """Does a deed; returns the reason for which it is refused, None if it is done."""
        reason = refusal(self.tree, self.number, deed)
        if reason is not None:
            return reason
        if len(deed_cells(deed)) + 1 > 48 * self.log:
            return ("log",)
        turned = False
        if not self.fits_deed(deed):
            self.turn()
            turned = True
            if not self.fits_deed(deed):
                return ("room",)
        waits = self.waits_of(deed)
        if self.left == 0 or len(record_parts((self.turns, self.number, waits, deed))) > self.left:
            assert not turned
            self.turn()
        if deed[0] == "snap":
            self.shots.append(growth(self.tree, self.number, deed))
        else:
            self.grown += growth(self.tree, self.number, deed)
        waits = self.doings.add(self.number, deed)
        self.left -= len(record_parts((self.turns, self.number, waits, deed)))
        self.number += 1
        return None

    def waits_of(self, deed):
        twin = Doings(self.doings.start)
        for number, there in self.doings.deeds.items():
            twin.add(number, there)
        return twin.add(self.number, deed) if len(twin) < 40 else ()

    def settle(self, deeds):
        tree, snaps = self.tree, []
        for at, deed in enumerate(deeds):
            reason = refusal(tree, self.number + at, deed)
            if reason is not None:
                return reason
            if deed[0] == "snap":
                snaps.append(len(tree.facts))
            tree = done(tree, self.number + at, deed)
        if not self.fits(snaps, len(tree.facts)):
            self.turn()
            if not self.fits(snaps, len(tree.facts)):
                return ("room",)
        self.turns += 1
        self.begin(tree, self.number + len(deeds))
        return None

    def told(self):
        return (self.tree.facts, self.tree.shots, self.number, self.turns, self.log, self.doings.deeds, self.doings.waits, self.synced)


def told_of(volume):
    """What a volume tells of itself, as an account does."""
    return (volume.tree.facts, volume.tree.shots, volume.number, volume.turns, volume.log, volume.deeds, volume.waits, volume.synced)


def state_of_volume(volume):
    """All that can be seen of a volume and its pair."""
    pair = volume.pair
    shots = tuple(volume.tree.shot(name) == volume.tree.shot(name) and volume.tree.shot(name).facts for name in volume.tree.shots)
    return told_of(volume) + (shots, pair.one.settled, pair.one.rows, pair.other.settled, pair.other.rows)


def lots_of(volume, start):
    """The dict from all lots that can come of a volume to their trees, straight from [14.1]."""
    doings = Doings(start)
    for number, deed in volume.deeds.items():
        doings.add(number, deed)
    return {lot: doings.tree_of(lot) for lot in lower_lots(doings.waits) if set(volume.synced) <= set(lot)}


def drawn_cut(rng, disk):
    share = rng.choice((0, 1, 2, 5, 8, 10))
    return {sector: rng.randrange(len(row)) for sector, row in disk.rows.items() if rng.randrange(10) < share}


def drawn_behind(rng, pair, losses=10):
    """The pair behind drawn cuts, with borne losses."""
    behind = pair.behind(drawn_cut(rng, pair.one), drawn_cut(rng, pair.other))
    lose_some(rng, behind, rng.randrange(losses + 1), range(pair.size))
    return behind


def steps_of(build, call, most=400):
    """Yields, for each number of steps, what was built and the call stopped behind so many steps; at last it unstopped."""
    for many in range(most):
        built = build()
        built.stop_after(many)
        try:
            result = call(built)
        except Stopped:
            built.stop_after(None)
            yield many, built, None
            continue
        built.stop_after(None)
        yield many, built, result
        return
    raise AssertionError("more steps than were thought")


def steps_taken(pair, call):
    """The steps of the disks that a call takes: (which, place) for a write, (which,) for a flush."""
    found = []
    for which, disk in enumerate((pair.one, pair.other)):
        def write(at, block, which=which, plain=disk.write):
            plain(at, block)
            found.append((which, at))

        def flush(which=which, plain=disk.flush):
            plain()
            found.append((which,))

        disk.write, disk.flush = write, flush
    try:
        call()
    finally:
        for disk in (pair.one, pair.other):
            del disk.write, disk.flush
    return found


def put_tree(rng, tree, places, dense=False):
    """A root, its blocks, and the places that are left, for a tree written at some places."""
    root, blocks = random_tree(rng, rows_of_tree(tree), places) if not dense else dense_tree(rows_of_tree(tree), list(places))
    return root, blocks, [place for place in places if place not in blocks]


def dense_tree(rows, places):
    """A search tree of as few nodes as can be."""
    if not rows:
        return 0, {}
    blocks, level, things = {}, 0, list(rows)
    while True:
        most, least = (3, 2) if level == 0 else (8, 4)
        groups = [things[at:at + most] for at in range(0, len(things), most)]
        if len(groups) > 1 and len(groups[-1]) < least:
            both = groups[-2] + groups[-1]
            groups[-2:] = [both[:len(both) - least], both[len(both) - least:]]
        above = []
        for group in groups:
            place = places.pop(0)
            blocks[place] = node_cells(level, group)
            above.append((group[0][0], place))
        if len(above) == 1:
            return above[0][1], blocks
        level, things = level + 1, above


def foreign_pair(size, head, blocks, records=()):
    """A flushed pair with a head, with blocks, and with records of (turn, number, waits, deed) in its log."""
    pair = fresh_pair(size)
    for place, cells in blocks.items():
        pair.write_block(place, cells)
    place = 2
    for record in records:
        for cells in record_parts(record):
            pair.write_block(place, cells)
            place += 1
    write_head(pair, head)
    pair.flush()
    return pair


def small_tree(*deeds):
    tree = Tree()
    for at, deed in enumerate(deeds):
        tree = done(tree, at + 1, deed)
    return tree


def volume_arg(good):
    return Arg(good, lambda value: isinstance(value, Volume), InvalidDisk, [good.pair, good.tree])


def is_refused(call):
    """The reason for which a call is refused, None if it is not."""
    try:
        call()
    except Refused as error:
        return error.reason
    return None


def drawn_volume(rng, size=None, log=None, many=12, bars=2):
    """A volume behind drawn deeds, syncs and turns, the tree of its last turn, and its account."""
    size = size or rng.choice((24, 26, 30, 48, 70))
    log = log or rng.choice((4, 5, 6))
    volume, account = made(fresh_pair(size), log), Account(size, log)
    for _ in range(many):
        kind = rng.randrange(12)
        if kind == 0:
            volume.sync(), account.sync()
        elif kind == 1:
            volume.turn(), account.turn()
        else:
            deed = drawn_deed(rng, volume.tree, bars=bars)
            reason = is_refused(lambda: volume.do(deed))
            assert account.do(deed) == reason
    return volume, account
