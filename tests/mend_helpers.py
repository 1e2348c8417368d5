"""Spoilt pairs for the tests, and what is said of them in stage 17, told plainly."""

from plain_helpers import done_deeds
from tree_helpers import node_cells, slow_scan, told_node
from volume_helpers import drawn_behind, drawn_volume, foreign_pair, put_tree
from everycut.keep.heads import found_head
from everycut.keep.log import read_log, taken
from everycut.mend.facts import mended_facts
from everycut.plain.coding import facts_of_rows, rows_fault
from everycut.plain.trees import Tree, done, refusal, tree_with


def shelf_of(pair, head):
    told = [(at, pair.read_block(at)) for at in range(2 + head[1], pair.size)]
    return {at: there[2] for at, there in told if there[0] == "whole"}


def scans_of(pair, head):
    """The triples of rows, places and faults under the roots, by names, "" for the tree."""
    blocks = shelf_of(pair, head)
    return {name: slow_scan(blocks, root) for name, root in (("", head[3]),) + head[4]}


def slow_needed(pair, head):
    """The set of the places of all needed blocks [17.3]."""
    found = {head[0] % 2}
    for _, places, _ in scans_of(pair, head).values():
        found |= set(places)
    records = read_log(pair, head[1], head[0])
    for at in range(2, 2 + head[1]):
        told = pair.read_block(at)
        if told[0] == "whole" and len(told[2]) > 1 and told[2][0] == head[0] and told[2][1] in records:
            found.add(at)
    return found


def slow_uses(pair):
    head = found_head(pair)
    rows = {place for _, places, _ in scans_of(pair, head).values() for place in places}
    return tuple("head" if at < 2 else "log" if at < 2 + head[1] else "rows" if at in rows else "free" for at in range(pair.size))


def slow_faults(pair):
    """All faults, straight as [17.4] says."""
    head = found_head(pair)
    scans = scans_of(pair, head)
    found = [("copies", at) for at in sorted(slow_needed(pair, head)) if None in pair.one.read(at) or pair.one.read(at) != pair.other.read(at)]
    found += [(word, at) for at, word in sorted({(at, word) for _, _, faults in scans.values() for word, at in faults})]
    return tuple(found) + tuple(("rows", name, rows_fault(rows)) for name, (rows, _, _) in scans.items() if rows_fault(rows) is not None)


def makes_again(tree, number, deed):
    parts = deed[1] if deed[0] == "all" else (deed,)
    return any(part[0] in ("make", "folder") and tree.kind_of(16 * number + at) for at, part in enumerate(parts))


def slow_mended_tree(pair):
    """The pair of the facts of the tree and of the dict of those of its shots, as they are to be meant behind mending."""
    head = found_head(pair)
    facts = {name: mended_facts(facts_of_rows(rows)[0]) for name, (rows, _, _) in scans_of(pair, head).items()}
    tree = Tree()
    for at, name in enumerate(one for one in facts if one):
        # Shots are put into a tree by snaps of trees with these facts.
        tree = with_facts(tree, facts[name], 900 + at, name)
    tree = with_facts(tree, facts[""], 999, None)
    records = read_log(pair, head[1], head[0])
    for number in taken(records):
        deed = records[number][1]
        if not makes_again(tree, number, deed) and refusal(tree, number, deed) is None:
            tree = done(tree, number, deed)
    return tree


def with_facts(tree, facts, number, name):
    """A tree with other facts and the shots of a tree, and one of itself, if a name is told."""
    found = tree_with({None: facts, **{one: tree.shot(one).facts for one in tree.shots}})
    return done(found, number, ("snap", name)) if name is not None else found


def slow_told(pair, head):
    """All places that the head, or a node below its roots tells, taken or not."""
    blocks, found = shelf_of(pair, head), set()
    waiting = [head[3]] + [root for _, root in head[4]]
    while waiting:
        place = waiting.pop()
        if place not in found:
            found.add(place)
            node = told_node(blocks.get(place, ()))
            if node is not None and node[0] > 0:
                waiting += [value[0] for _, value in node[1]]
    return found


def spoil(rng, pair):
    """Spoils some blocks that are needed, or others, of a flushed pair."""
    head = found_head(pair)
    rows = sorted({place for _, places, _ in scans_of(pair, head).values() for place in places})
    for _ in range(rng.randrange(1, 4)):
        places = rows if rows and rng.randrange(8) else range(2, pair.size)
        at = rng.choice(list(places))
        kind = rng.randrange(9)
        told = pair.read_block(at)
        node = told_node(told[2]) if told[0] == "whole" else None
        node = node if node is not None and node[1] else None
        if kind == 0:
            for disk in (pair.one, pair.other):
                disk.write(at, ((at, pair.last_edition + 1, 0), (), (), (at, 3, 3)))
        elif kind == 1:
            pair.flush()
            pair.one.lose(at, 1)
            pair.other.lose(at, 1)
        elif kind == 2 or node is None:
            pair.write_block(at, rng.choice(((), (0,), (9, 9), (0, 0), (1, 1, 1, 5, 1, rng.randrange(240)))))
        elif kind == 3:
            pair.write_block(at, node_cells(node[0], [(key, value if node[0] == 0 else value[0]) for key, value in node[1][1:]]))
        elif kind == 4:
            pair.write_block(at, node_cells(node[0], [(key, value if node[0] == 0 else value[0]) for key, value in node[1][:-1]]))
        elif kind == 5 and rows:
            other = pair.read_block(rng.choice(rows))
            if other[0] == "whole":
                pair.write_block(at, other[2])
        elif kind == 6 and node[0] == 0:
            spoilt = [(key, value) for key, value in node[1]]
            spoilt[0] = (spoilt[0][0], (rng.choice((0, 1, 16, 97, 10 ** 12)),))
            pair.write_block(at, node_cells(0, spoilt))
        elif kind == 7 and node[0] == 0:
            spoilt = sorted([((rng.choice((1, 2, 3, 4, 7)), rng.randrange(40)), (1,))] + list(node[1])[1:])
            pair.write_block(at, node_cells(0, spoilt))
        else:
            pair.write_block(at, (node[0] + 1,) + told[2][1:])
    pair.flush()


def spoilt_pair(rng, losses=12):
    """A flushed pair of a volume with shots, records and free blocks, some of it spoilt."""
    volume, _ = drawn_volume(rng, size=rng.choice((30, 48, 70)), log=rng.choice((4, 6)), many=rng.randrange(5, 30), bars=6)
    pair = drawn_behind(rng, volume.pair, losses)
    spoil(rng, pair)
    return pair


def foreign_tree_pair(rng, records=()):
    """A pair with a drawn tree and a shot that the tests write, and the tree."""
    found, tree, _ = done_deeds(rng, 12, "abc", bars=0)
    shot = found[rng.randrange(len(found))][2]
    root, blocks, left = put_tree(rng, tree, range(12, 100))
    shot_root, more, _ = put_tree(rng, shot, left)
    return foreign_pair(120, (5, 10, found[-1][0] + 1, root, (("s", shot_root),)), {**blocks, **more}, records), tree
