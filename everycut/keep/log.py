"""The log of a turn: records of deeds in parts, each a block of a pair."""

from everycut.base.checks import check_number
from everycut.base.checks import is_number
from everycut.base.names import MAX_CELL
from everycut.base.names import are_cells
from everycut.errors import InvalidNumber
from everycut.errors import InvalidOperation
from everycut.errors import Refused
from everycut.errors import TooMany
from everycut.outside.blocks import MOST_CELLS
from everycut.outside.blocks import tell
from everycut.outside.disks import is_cut
from everycut.outside.pairs import check_pair
from everycut.plain.coding import cells_of_deed
from everycut.plain.coding import deed_in_cells
from everycut.plain.deeds import is_deed
from everycut.plain.facts import MOST_DOING
from everycut.plain.waits import within

FIRST_LOG = 2
PART_MARKS = 4
PART_BODY = 48

LEAST_LOG = 4
MOST_LOG = 40
MOST_WAITS = 39


def _are_waits_of(number, value):
    """Whether the value is an ascending tuple of at most 39 numbers below this one."""
    if not isinstance(value, tuple) or len(value) > MOST_WAITS:
        return False
    if not all([is_number(one, 1, number - 1) for one in value]):
        return False
    return all([value[at - 1] < value[at] for at in range(1, len(value))])


def _is_put(number, value):
    """Whether the value is a pair of the waits and the deed of a record with this number, which was checked."""
    if not isinstance(value, tuple) or len(value) != 2:
        return False
    return _are_waits_of(number, value[0]) and is_deed(value[1])


def is_record(value):
    """Whether the value is a record."""
    if not isinstance(value, tuple) or len(value) != 4:
        return False
    if not is_number(value[0], 1, MAX_CELL) or not is_number(value[1], 1, MOST_DOING):
        return False
    return _is_put(value[1], value[2:])


def _parts(record):
    """The parts of a record, which was checked."""
    turn, number, waits, deed = record
    body = (len(waits),) + waits + cells_of_deed(deed)
    stretches = [body[at:at + PART_BODY] for at in range(0, len(body), PART_BODY)]
    return tuple([(turn, number, at, len(stretches)) + cells for at, cells in enumerate(stretches)])


def record_parts(record):
    """The tuple of the parts of a record."""
    if not is_record(record):
        raise InvalidOperation("not a record")
    return _parts(record)


def _joined(parts):
    """The record that is whole among all parts with one turn and one number; None if there is none."""
    ordered = sorted(parts, key=lambda part: part[2:])
    body = tuple([cell for part in ordered for cell in part[PART_MARKS:]])
    if not body:
        return None
    behind = 1 + body[0]
    record = ordered[0][:2] + (body[1:behind], deed_in_cells(body[behind:]))
    # Many cells tell one record; just the parts that it would have been put with are its own.
    return record if is_record(record) and _parts(record) == tuple(ordered) else None


def _whole(turn, told):
    """The dict from the numbers of the whole records of a turn to their waits and deeds; all was checked."""
    groups = {}
    for cells in told:
        if len(cells) > 1 and cells[0] == turn:
            groups.setdefault(cells[1], []).append(cells)
    found = {}
    for number in sorted(groups):
        record = _joined(groups[number])
        if record is not None:
            found[number] = record[2:]
    return found


def whole_records(turn, told):
    """The dict from the numbers of the whole records of a turn to the pairs of their waits and deeds."""
    check_number(turn, 1, MAX_CELL)
    if not isinstance(told, tuple) or len(told) > MOST_LOG:
        raise InvalidOperation("not a tuple of at most 40 tuples of cells")
    if not all([are_cells(cells, MOST_CELLS) for cells in told]):
        raise InvalidOperation("not a tuple of at most 52 cells")
    return _whole(turn, told)


def _are_records(value):
    """Whether the value is a dict of at most 40 numbers to pairs of waits and a deed."""
    if not isinstance(value, dict) or len(value) > MOST_LOG:
        return False
    return all([is_number(number, 1, MOST_DOING) and _is_put(number, put) for number, put in value.items()])


def taken_of(records):
    """The ascending tuple of the numbers that are taken; the records were checked."""
    return within({number: records[number][0] for number in records}, sorted(records))


def taken(records):
    """The ascending tuple of the numbers that are taken."""
    if not _are_records(records):
        raise InvalidOperation("not records")
    return taken_of(records)


def _check_log(pair, size, turn):
    """Raises the errors of logs."""
    check_pair(pair)
    check_number(size, LEAST_LOG, min(MOST_LOG, pair.size - FIRST_LOG))
    check_number(turn, 1, MAX_CELL)


class Log:
    """The log of a turn on a pair; the disks change with it."""

    def __init__(self, pair, size, turn):
        _check_log(pair, size, turn)
        self._pair = pair
        self._size = size
        self._turn = turn
        self._used = 0
        self._last = 0
        self._put = {}
        self._places = {}
        self._synced = ()

    @property
    def pair(self):
        """The pair on which the log lies."""
        return self._pair

    @property
    def size(self):
        """The number of the blocks of the log."""
        return self._size

    @property
    def turns(self):
        """The number of the turn."""
        return self._turn

    @property
    def left(self):
        """How many blocks are left."""
        return self._size - self._used

    @property
    def records(self):
        """The dict from the numbers of all that was put to the pairs of its waits and its deed."""
        return {number: put for number, put in self._put.items()}

    @property
    def synced(self):
        """The ascending tuple of the numbers that were put ahead of the last sync."""
        return self._synced

    def places_of(self, number):
        """The places of the parts of a record that was put."""
        return self._places[number]

    def put(self, number, waits, deed):
        """Writes a record, and returns the tuple of its places."""
        record = (self._turn, number, waits, deed)
        if not is_record(record):
            raise InvalidOperation("not a record")
        if number <= self._last:
            raise InvalidNumber(number)
        parts = _parts(record)
        if len(parts) > self._size - self._used:
            raise Refused(("log", len(parts)))
        if self._pair.last_edition + len(parts) > MAX_CELL:
            raise TooMany(MAX_CELL)
        places = tuple(range(FIRST_LOG + self._used, FIRST_LOG + self._used + len(parts)))
        # What is begun is never written over, also if the pair stops amid it.
        self._used += len(parts)
        self._last = number
        for place, cells in zip(places, parts):
            self._pair.write_block(place, cells)
        self._put[number] = (waits, deed)
        self._places[number] = places
        return places

    def sync(self):
        """Flushes both disks."""
        self._pair.flush()
        self._synced = tuple(self._put)

    def __len__(self):
        return len(self._put)

    def __str__(self):
        return f"log of turn {self._turn}: {len(self._put)} records, {self._size - self._used} blocks left"


def _read(pair, size, turn):
    """The whole records of a turn that are read on the pair; all was checked."""
    told = [pair.read_block(at) for at in range(FIRST_LOG, FIRST_LOG + size)]
    return _whole(turn, [one[2] for one in told if one[0] == "whole"])


def read_parts(pair, size, turn):
    """The ascending list of the places of the parts of the whole records of a turn; all was checked."""
    told = [(at, pair.read_block(at)) for at in range(FIRST_LOG, FIRST_LOG + size)]
    cells = {at: there[2] for at, there in told if there[0] == "whole"}
    whole = _whole(turn, list(cells.values()))
    return [at for at in cells if len(cells[at]) > 1 and cells[at][0] == turn and cells[at][1] in whole]


def read_log(pair, size, turn):
    """The whole records of a turn that are read on the pair."""
    _check_log(pair, size, turn)
    return _read(pair, size, turn)


def _check_wanted(log, numbers):
    """Raises the errors of the functions about cuts for records."""
    if not isinstance(log, Log):
        raise InvalidOperation("not a log")
    if not isinstance(numbers, tuple) or not all([is_number(number, 1, MOST_DOING) for number in numbers]):
        raise InvalidOperation("not a tuple of numbers")
    if list(numbers) != [number for number in log.records if number in numbers]:
        raise InvalidOperation("not ascending numbers of records")
    if not all([number in numbers for number in log.synced]):
        raise InvalidOperation("a synced record is left out")


def cut_for_records(log, numbers):
    """A pair of cuts, one of each disk, behind which just the records with these numbers are whole."""
    _check_wanted(log, numbers)
    places = [place for number in numbers if number not in log.synced for place in log.places_of(number)]
    rows = log.pair.one.rows
    # One copy is enough for a record that is kept; no copy of any other one comes.
    return ({sector: len(rows[sector]) - 1 for sector in rows if sector[0] in places}, {})


def is_cut_for_records(log, numbers, value):
    """Whether the value is a pair of cuts behind which just the records with these numbers are whole."""
    _check_wanted(log, numbers)
    if not isinstance(value, tuple) or len(value) != 2:
        return False
    one, other = log.pair.one, log.pair.other
    if not is_cut(one, value[0]) or not is_cut(other, value[1]):
        return False
    told = []
    for at in range(FIRST_LOG, FIRST_LOG + log.size):
        told.append(tell(at, (one.block_behind(at, value[0]), other.block_behind(at, value[1]))))
    whole = _whole(log.turns, [there[2] for there in told if there[0] == "whole"])
    records = log.records
    return whole == {number: records[number] for number in numbers}
