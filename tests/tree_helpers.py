"""Search trees for the tests: built in other ways than by the package, and scanned straight by the words."""

from helpers import LEFT, RIGHT, TOP, Arg
from everycut.errors import InvalidBlock

NODES = {6: LEFT, 7: RIGHT, 9: TOP}


def row_told(key, value):
    return (len(key), *key, len(value), *value)


def node_cells(level, members):
    """The cells of a node with these members, rows or pairs of a key and a place."""
    told = [row_told(key, value if type(value) is tuple else (value,)) for key, value in members]
    return (level, len(members)) + tuple(cell for cells in told for cell in cells)


def parts(rng, things, low, high):
    """The things in some parts of low to high ones each."""
    most, fewest = len(things) // low, -(-len(things) // high)
    many = rng.randint(fewest, most)
    sizes = [low] * many
    while sum(sizes) < len(things):
        at = rng.randrange(many)
        if sizes[at] < high:
            sizes[at] += 1
    found, at = [], 0
    for size in sizes:
        found.append(things[at:at + size])
        at += size
    return found


def random_tree(rng, rows, places):
    """A pair of a root and of blocks: any sound tree of the rows at some of the places."""
    if not rows:
        return 0, {}
    left = list(places)
    rng.shuffle(left)
    blocks = {}
    level, things = 0, list(rows)
    while True:
        low, high = (2, 3) if level == 0 else (4, 8)
        is_top = len(things) <= high and (len(things) < 2 * low or rng.randrange(2) == 0)
        groups = [things] if is_top else parts(rng, things, low, high)
        things_above = []
        for group in groups:
            place = left.pop()
            blocks[place] = node_cells(level, group)
            things_above.append((group[0][0], place))
        if len(things_above) == 1:
            return things_above[0][1], blocks
        things, level = things_above, level + 1


def some_rows(many, step=1):
    """Rows with so many keys, of one to three cells, some of which begin others."""
    keys = sorted(key for number in range(many) for key in ((number,), (number, 0), (number, 0, 5)))[:many * step:step]
    return tuple((key, key + (at,)) for at, key in enumerate(keys[:many]))


def told_rows(cells):
    """The rows that cells tell, None if they tell none, read straight from [5.2]."""
    rows, at = [], 0
    while at < len(cells):
        row = []
        for most in (3, 8):
            length = cells[at] if at < len(cells) else 0
            if not 1 <= length <= most or at + length >= len(cells):
                return None
            row.append(cells[at + 1:at + 1 + length])
            at += 1 + length
        rows.append(tuple(row))
    keys = [key for key, _ in rows]
    return rows if keys == sorted(set(keys)) else None


def told_node(cells):
    if len(cells) < 2 or cells[0] > 4:
        return None
    members = told_rows(cells[2:])
    if members is None or len(members) != cells[1]:
        return None
    if cells[0] > 0 and any(len(value) != 1 or value[0] > 239 for _, value in members):
        return None
    return cells[0], members


def slow_scan(blocks, root):
    """The triple of tree_scan, straight as [6.2] and [6.3] say."""
    rows, places, faults = [], [], []
    # Each entry: the place, the level asked for, the first key asked for, and all next keys above.
    waiting = [] if root == 0 else [(root, None, None, [])]
    while waiting:
        place, level, first, nexts = waiting.pop(0)
        if place not in blocks:
            faults.append(("lost", place))
            continue
        node = told_node(blocks[place])
        if node is None:
            faults.append(("cells", place))
            continue
        if level is not None and node[0] != level:
            faults.append(("level", place))
            continue
        members = node[1]
        bounds = {(True, True): (1, 3), (True, False): (2, 8), (False, True): (2, 3), (False, False): (4, 8)}
        low, high = bounds[level is None, node[0] == 0]
        is_few = not low <= len(members) <= high
        fit = bool(members) and (first is None or members[0][0] == first) and all(members[-1][0] < key for key in nexts)
        if is_few:
            faults.append(("few", place))
        elif not fit:
            faults.append(("key", place))
        if not fit:
            continue
        places.append(place)
        if node[0] == 0:
            rows.extend(members)
            continue
        below = []
        for at, (key, value) in enumerate(members):
            below.append((value[0], node[0] - 1, key, nexts + [members[at + 1][0]] if at + 1 < len(members) else nexts))
        waiting = below + waiting
    return tuple(rows), tuple(sorted(places)), tuple(faults)


def slow_is_change(blocks, root, changes, value, free):
    """Whether a pair is right, as [6.4] and the text of tree_changed say; root and blocks are sound."""
    before = dict(slow_scan(blocks, root)[0])
    unlike = {key: new for key, new in changes.items() if before.get(key) != new}
    behind = {**before, **unlike}
    behind = tuple(sorted((key, new) for key, new in behind.items() if new is not None))
    if type(value) is not tuple or len(value) != 2 or type(value[0]) is not int or type(value[1]) is not dict:
        return False
    top, fresh = value
    for place, cells in fresh.items():
        if type(place) is not int or place not in free or type(cells) is not tuple or len(cells) > 52:
            return False
        if not all(type(cell) is int and 0 <= cell < 10 ** 18 for cell in cells):
            return False
    if not 0 <= top < 240:
        return False
    rows, places, faults = slow_scan({**blocks, **fresh}, top)
    return (not faults and rows == behind and all(place in places for place in fresh)
            and len(fresh) <= slow_most_fresh(len(before), len(behind), len(unlike)))


def slow_counts(many):
    """The most nodes at each level, as [6.5] says."""
    counts = []
    if many > 0:
        counts.append(max(many // 2, 1))
        while counts[-1] >= 2:
            counts.append(max(counts[-1] // 4, 1))
    return counts


def slow_most_fresh(before, after, changes):
    level = max(len(slow_counts(before + changes)) - 1, 0)
    return min(sum(slow_counts(after)), 2 * changes * (1 + level))


def blocks_arg(good=NODES):
    more = [{240: ()}, {-1: ()}, {True: ()}, {6: [0, 0]}, {6: (0,) * 53}, {6: (True, 0)}, {6: (-1,)}, {6: (10 ** 18,)},
            {6: None}, {"a": ()}, {None: ()}, {6: LEFT, 7: 3}, [(6, LEFT)], ((6, LEFT),), {10 ** 60: ()}]
    return Arg(good, lambda value: value == {} and type(value) is dict, InvalidBlock, more)
