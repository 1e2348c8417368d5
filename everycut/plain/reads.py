"""What plain deeds read and set."""

from everycut.errors import InvalidDeed
from everycut.errors import Refused
from everycut.plain.deeds import is_deed
from everycut.plain.deeds import is_plain
from everycut.plain.effects import part_reads
from everycut.plain.effects import part_sets
from everycut.plain.effects import stages
from everycut.plain.trees import check_doing

# Bounds of everycut.plain.waits, which has them from here: they are listed for both modules.
MOST_DEEDS = 40
MOST_LOTS = 4096


def is_bar(value):
    """Whether the value is a deed that is a bar."""
    return is_deed(value) and not is_plain(value)


def _parts_done(tree, number, deed):
    """The stages of a plain deed but the last one; raises the errors of reads and sets."""
    check_doing(tree, number, deed)
    if not is_plain(deed):
        raise InvalidDeed("a bar")
    reason, found = stages(tree.facts, number, deed)
    if reason is not None:
        raise Refused(reason)
    return found[:-1]


def reads(tree, number, deed):
    """The ascending tuple of the keys that a plain deed reads."""
    found = {}
    written = {}
    for facts, part, made in _parts_done(tree, number, deed):
        for key in part_reads(facts, part):
            if key not in written:
                found[key] = True
        for key in part_sets(facts, part, made):
            written[key] = True
    return tuple(sorted(found))


def sets(tree, number, deed):
    """The dict from the keys that a plain deed sets to their values."""
    found = {}
    for facts, part, made in _parts_done(tree, number, deed):
        for key, value in part_sets(facts, part, made).items():
            found[key] = value
    return {key: found[key] for key in sorted(found)}
