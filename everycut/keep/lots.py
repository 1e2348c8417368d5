"""All lots of deeds that can come of a volume behind a cut, and cuts for them."""

from everycut.errors import InvalidOperation
from everycut.errors import Refused
from everycut.keep.log import cut_for_records
from everycut.keep.volumes import check_volume
from everycut.keep.volumes import meaning
from everycut.outside.disks import is_cut
from everycut.plain.waits import are_numbers_of
from everycut.plain.waits import is_lower_lot
from everycut.plain.waits import lots_with
from everycut.plain.waits import lower_of

MAX_LOTS = 4096


def lots_that_can_come(volume):
    """The ascending tuple of all lots that can come."""
    check_volume(volume)
    return lots_with(volume.waits, volume.synced, MAX_LOTS)


def lot_number(volume):
    """The number of all lots that can come."""
    return len(lots_that_can_come(volume))


def _check_lot(volume, lot):
    """Raises InvalidDisk or InvalidOperation unless the values are a volume and a lower lot of its deeds."""
    check_volume(volume)
    if not is_lower_lot(volume.waits, lot):
        raise InvalidOperation("not a lower lot of the deeds of this turn")


def lot_tree(volume, lot):
    """The tree of a lot."""
    _check_lot(volume, lot)
    return volume.tree_of(lot)


def cut_for(volume, lot):
    """A pair of cuts, one of each disk, behind which the pair means the tree of the lot."""
    _check_lot(volume, lot)
    lacking = [number for number in volume.synced if number not in lot]
    if lacking:
        raise Refused(("synced", lacking[0]))
    return cut_for_records(volume.records_log(), lot)


def is_cut_for(volume, lot, value):
    """Whether the value is a pair of cuts behind which the pair means the tree of the lot."""
    _check_lot(volume, lot)
    pair = volume.pair
    if not isinstance(value, tuple) or len(value) != 2:
        return False
    if not is_cut(pair.one, value[0]) or not is_cut(pair.other, value[1]):
        return False
    try:
        return meaning(pair.behind(value[0], value[1])) == volume.tree_of(lot)
    except Refused:
        return False


def least_lot(volume, numbers):
    """The least lot that can come and has some numbers."""
    check_volume(volume)
    waits = volume.waits
    if not are_numbers_of(waits, numbers):
        raise InvalidOperation("not ascending numbers of deeds of this turn")
    every = {number: True for number in volume.synced + numbers}
    return lower_of(waits, tuple(sorted(every)))
