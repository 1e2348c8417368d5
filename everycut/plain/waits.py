"""What deeds wait for, and lower lots of them."""

from everycut.base.checks import check_number
from everycut.base.checks import is_number
from everycut.errors import InvalidNumber
from everycut.errors import InvalidOperation
from everycut.errors import Refused
from everycut.errors import TooMany
from everycut.plain.deeds import check_deed
from everycut.plain.facts import MOST_DOING
from everycut.plain.reads import MOST_DEEDS
from everycut.plain.reads import MOST_LOTS
from everycut.plain.reads import is_bar
from everycut.plain.reads import reads
from everycut.plain.reads import sets
from everycut.plain.trees import check_tree
from everycut.plain.trees import done
from everycut.plain.trees import refusal


def _are_ascending(value):
    """Whether the value is an ascending tuple of numbers of deeds."""
    if not isinstance(value, tuple) or not all([is_number(number, 1, MOST_DOING) for number in value]):
        return False
    return all([value[at - 1] < value[at] for at in range(1, len(value))])


def are_waits(value):
    """Whether the value is a dict of at most 40 numbers to ascending tuples of lesser ones of them."""
    if not isinstance(value, dict) or len(value) > MOST_DEEDS:
        return False
    if not all([is_number(number, 1, MOST_DOING) for number in value]):
        return False
    for number, ahead in value.items():
        if not _are_ascending(ahead) or not all([one in value and one < number for one in ahead]):
            return False
    return True


def _check_waits(waits):
    """Raises InvalidOperation unless the value tells what some numbers wait for."""
    if not are_waits(waits):
        raise InvalidOperation("not numbers with those for which they wait")


def are_numbers_of(waits, value):
    """Whether the value is an ascending tuple of some of the numbers."""
    return _are_ascending(value) and all([number in waits for number in value])


def _check_numbers(waits, numbers):
    """Raises InvalidOperation unless the values are waits and an ascending tuple of numbers of them."""
    _check_waits(waits)
    if not are_numbers_of(waits, numbers):
        raise InvalidOperation("not ascending numbers of deeds")


def is_lower_lot(waits, value):
    """Whether the value is an ascending tuple of numbers that has with each one all those for which it waits."""
    if not are_numbers_of(waits, value):
        return False
    return all([ahead in value for number in value for ahead in waits[number]])


def is_lower(waits, value):
    """Whether the value is a lower lot."""
    _check_waits(waits)
    return is_lower_lot(waits, value)


def lower_of(waits, numbers):
    """The least lower lot that has the numbers."""
    _check_numbers(waits, numbers)
    found = {number: True for number in numbers}
    # Each number waits for lesser ones alone, so one way down finds them all.
    for number in sorted(waits, reverse=True):
        if number in found:
            for ahead in waits[number]:
                found[ahead] = True
    return tuple(sorted(found))


def within(waits, numbers):
    """The greatest lower lot of some ascending numbers; what they wait for need not be among all numbers."""
    found = {}
    for number in numbers:
        if all([ahead in found for ahead in waits[number]]):
            found[number] = True
    return tuple(found)


def greatest_within(waits, numbers):
    """The greatest lower lot within some numbers."""
    _check_numbers(waits, numbers)
    return within(waits, numbers)


def tops(waits, numbers):
    """The ascending tuple of those of the numbers for which none of them waits."""
    _check_numbers(waits, numbers)
    waited = {ahead: True for number in numbers for ahead in waits[number]}
    return tuple([number for number in numbers if number not in waited])


def lots_with(waits, held, most):
    """The ascending tuple of all lower lots that have the numbers of a lower lot; all was checked.

    Raises TooMany for more lots than the most.
    """
    lots = [()]
    for number in sorted(waits):
        more = [lot + (number,) for lot in lots if all([ahead in lot for ahead in waits[number]])]
        lots = more if number in held else lots + more
        if len(lots) > most:
            raise TooMany(most)
    return tuple(sorted(lots))


def lower_lots(waits):
    """The ascending tuple of all lower lots."""
    _check_waits(waits)
    return lots_with(waits, (), MOST_LOTS)


class Doings:
    """What is done to a tree, deed by deed, and what each deed waits for."""

    def __init__(self, tree):
        check_tree(tree)
        self._start = tree
        self._tree = tree
        self._deeds = {}
        self._waits = {}
        # The last bar, all deeds behind it, and the last of these to set each key.
        self._bar = ()
        self._behind = ()
        self._writers = {}

    @property
    def start(self):
        """The tree to which it was done."""
        return self._start

    @property
    def tree(self):
        """The tree behind all deeds."""
        return self._tree

    @property
    def deeds(self):
        """The dict from the numbers to the deeds."""
        return {number: deed for number, deed in self._deeds.items()}

    @property
    def waits(self):
        """The dict from the numbers to the tuples of the numbers for which these deeds wait."""
        return {number: ahead for number, ahead in self._waits.items()}

    def add(self, number, deed):
        """Does a further deed, and returns the tuple of the numbers for which it waits."""
        check_number(number, 1, MOST_DOING)
        if self._deeds and number <= max(self._deeds):
            raise InvalidNumber(number)
        check_deed(deed)
        if len(self._deeds) == MOST_DEEDS:
            raise TooMany(MOST_DEEDS)
        reason = refusal(self._tree, number, deed)
        if reason is not None:
            raise Refused(reason)
        ahead = self.ahead_of(number, deed)
        self._mark(number, deed)
        self._tree = done(self._tree, number, deed)
        self._deeds[number] = deed
        self._waits[number] = ahead
        return ahead

    def ahead_of(self, number, deed):
        """The numbers for which a further deed would wait, which is not refused."""
        if is_bar(deed):
            return self._bar + self._behind
        found = {one: True for one in self._bar}
        for key in reads(self._tree, number, deed):
            if key in self._writers:
                found[self._writers[key]] = True
            if key[0] == "names":
                for there, writer in self._writers.items():
                    if there[0] == "name" and there[1] == key[1]:
                        found[writer] = True
        return tuple(sorted(found))

    def _mark(self, number, deed):
        """A further deed is the last bar from now on, or has set what it sets."""
        if is_bar(deed):
            self._bar = (number,)
            self._behind = ()
            self._writers = {}
            return
        for key in sets(self._tree, number, deed):
            self._writers[key] = number
        self._behind = self._behind + (number,)

    def tree_of(self, lot):
        """The tree behind the deeds of a lower lot."""
        if not is_lower_lot(self._waits, lot):
            raise InvalidOperation("not a lower lot")
        tree = self._start
        for number in lot:
            tree = done(tree, number, self._deeds[number])
        return tree

    def __len__(self):
        return len(self._deeds)

    def __str__(self):
        return f"{len(self._deeds)} deeds"
