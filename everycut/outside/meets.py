"""What the two copies of a block can tell behind all cuts of both disks, and cuts for it.

A meet of an index at a place is what may lie there on both copies behind some cuts: a triple
(indices, values, marks) of the pair of the indices in both rows, None for what is settled, of the
pair of both values, and of the tuple of the pairs (edition, value) of the editions which just one
value fits. A table has the list of all meets for each of the four indices.
"""

from everycut.outside.blocks import BLANK_TOLD
from everycut.outside.blocks import LOST
from everycut.outside.blocks import MARKS
from everycut.outside.blocks import TORN
from everycut.outside.blocks import block_made
from everycut.outside.blocks import edition_of
from everycut.outside.disks import PARTS
from everycut.outside.disks import SECTOR_CELLS


def _marks_of(place, part, one, other):
    """The pairs (edition, value) of the editions which just one of two values fits."""
    first = edition_of(place, part, one)
    second = edition_of(place, part, other)
    if first == second and one != other:
        return ()
    found = {edition: value for edition, value in ((first, one), (second, other)) if edition > 0}
    return tuple(found.items())


def table_of_meets(one, other, at):
    """The table of the meets at a place of two disks."""
    table = []
    for part in range(PARTS):
        table.append([
            ((one_index, other_index), (one_value, other_value), _marks_of(at, part, one_value, other_value))
            for one_index, one_value in one.ways(at, part)
            for other_index, other_value in other.ways(at, part)
        ])
    return table


def _is_lost(meet):
    """Whether both values of a meet are lost."""
    return meet[1] == (None, None)


def _is_bare(meet):
    """Whether all values of a meet that can be read are ()."""
    return all([value is None or value == () for value in meet[1]])


def _still_alive(alive, meet, part, floor):
    """Those editions above the floor that can still be whole behind a further meet.

    An edition that is alive is told by a pair with whether all its sectors were full so far:
    behind one that is not, just sectors without cells fit a made block.
    """
    found = []
    for edition, value in meet[2]:
        is_open = part == 0 or (edition, True) in alive
        if edition > floor and (is_open or ((edition, False) in alive and len(value) == MARKS)):
            found.append((edition, is_open and len(value) == SECTOR_CELLS))
    return tuple(sorted(found))


def _low_from(table, floor, state, failed):
    """Meets, from an index on, behind which no edition above the floor is whole, and not all is bare.

    The state is the index, the editions that are alive, and whether all was bare so far. States
    from which there are no such meets are kept in failed, so that none is tried twice.
    """
    part, alive, bare = state
    if part == PARTS:
        return None if alive or bare else []
    if state in failed:
        return None
    for meet in table[part]:
        following = (part + 1, _still_alive(alive, meet, part, floor), bare and _is_bare(meet))
        rest = _low_from(table, floor, following, failed)
        if rest is not None:
            return [meet] + rest
    failed[state] = True
    return None


def _low_meets(table, floor):
    """Four meets behind which no edition above the floor is whole, and not all is bare; or None."""
    return _low_from(table, floor, (0, (), True), {})


def _lost_meets(table):
    """Four meets of which one is lost on both copies; None if there are none."""
    lost = [[meet for meet in meets if _is_lost(meet)] for meets in table]
    if not any(lost):
        return None
    return [(lost[part] + table[part])[0] for part in range(PARTS)]


def _readable(table):
    """The table without the meets that are lost on both copies."""
    return [[meet for meet in meets if not _is_lost(meet)] for meets in table]


def _bare_meets(table):
    """Four meets with nothing but () to read, at each index; None if there are none."""
    bare = [[meet for meet in meets if _is_bare(meet)] for meets in _readable(table)]
    if [] in bare:
        return None
    return [meets[0] for meets in bare]


def _whole_meets(at, table, edition, cells):
    """Four meets behind which this edition is the greatest whole one, with these cells; or None."""
    block = block_made(at, edition, cells)
    fitting = [[meet for meet in table[part] if (edition, block[part]) in meet[2]] for part in range(PARTS)]
    return _low_meets(fitting, edition)


def meets_for(at, table, told):
    """Four meets of the table behind which a place tells what is told; None if there are none."""
    if told == LOST:
        return _lost_meets(table)
    if told == BLANK_TOLD:
        return _bare_meets(table)
    if told == TORN:
        return _low_meets(_readable(table), 0)
    return _whole_meets(at, table, told[1], told[2])


def _values_of_editions(meets):
    """The dict from the editions that can be marked at an index to the lists of their values."""
    found = {}
    for meet in meets:
        for edition, value in meet[2]:
            values_there = found.setdefault(edition, [])
            if value not in values_there:
                values_there.append(value)
    return found


def _possible_wholes(table):
    """All that some whole edition among the values of a table can tell."""
    found = [_values_of_editions(meets) for meets in table]
    out = []
    for edition in sorted(found[0]):
        blocks = [()]
        for part in range(PARTS):
            blocks = [
                block + (value,)
                for block in blocks
                for value in found[part].get(edition, [])
                if not block or len(block[-1]) == SECTOR_CELLS or len(value) == MARKS
            ]
        for block in blocks:
            out.append(("whole", edition, tuple([cell for value in block for cell in value[MARKS:]])))
    return out


def all_told(at, table):
    """The ascending tuple of all that a place with this table can tell, each once."""
    possible = [BLANK_TOLD, LOST, TORN] + _possible_wholes(table)
    return tuple(sorted([told for told in possible if meets_for(at, table, told) is not None]))


def cuts_of_meets(at, meets):
    """The pair of the cuts of both disks that lead to four meets at a place."""
    ones = {(at, part): meets[part][0][0] for part in range(PARTS) if meets[part][0][0] is not None}
    others = {(at, part): meets[part][0][1] for part in range(PARTS) if meets[part][0][1] is not None}
    return (ones, others)
