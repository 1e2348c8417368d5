"""Plans of flushes for a disk that is told in small, with cells in the place of sectors."""

from everycut.base.checks import check_number
from everycut.base.checks import is_number
from everycut.base.names import is_name
from everycut.errors import InvalidCut
from everycut.errors import InvalidOperation
from everycut.errors import InvalidPicture
from everycut.errors import Refused

MAX_CELLS = 6
MAX_WRITES = 8
MAX_RULES = 24

MOST_FIGURE = 9
MOST_SMALL_ROWS = 3


def _is_figure(value):
    """Whether the value is a number from 0 to 9."""
    return is_number(value, 0, MOST_FIGURE)


def _check_picture(picture):
    """Raises InvalidPicture unless the value is a small picture."""
    if not isinstance(picture, tuple) or not 1 <= len(picture) <= MAX_CELLS:
        raise InvalidPicture("not one to six numbers")
    if not all([_is_figure(figure) for figure in picture]):
        raise InvalidPicture("not numbers from 0 to 9")


def _is_write(cells, value):
    """Whether the value is a pair of the index of one of so many cells and of a number."""
    if not isinstance(value, tuple) or len(value) != 2:
        return False
    return is_number(value[0], 0, cells - 1) and _is_figure(value[1])


def _check_writes(picture, writes):
    """Raises InvalidOperation unless the value is writes for the cells of a picture."""
    if not isinstance(writes, tuple) or len(writes) > MAX_WRITES:
        raise InvalidOperation("not at most eight writes")
    if not all([_is_write(len(picture), write) for write in writes]):
        raise InvalidOperation("not writes")


def _check_gaps(writes, gaps):
    """Raises InvalidOperation unless the value is gaps for the writes."""
    if not isinstance(gaps, tuple) or not all([is_number(gap, 1, len(writes)) for gap in gaps]):
        raise InvalidOperation("not gaps")
    if not all([gaps[at - 1] < gaps[at] for at in range(1, len(gaps))]):
        raise InvalidOperation("not ascending gaps")


def _is_pattern(cells, value):
    """Whether the value is a pattern for so many cells."""
    if not isinstance(value, tuple) or len(value) != cells:
        return False
    return all([figure is None or _is_figure(figure) for figure in value])


def _is_rule(cells, value):
    """Whether the value is a rule for so many cells."""
    if not isinstance(value, tuple) or len(value) != 2:
        return False
    return _is_pattern(cells, value[0]) and is_name(value[1])


def _check_rules(picture, rules):
    """Raises InvalidOperation unless the value is rules for the cells of a picture."""
    if not isinstance(rules, tuple) or len(rules) > MAX_RULES:
        raise InvalidOperation("not at most 24 rules")
    if not all([_is_rule(len(picture), rule) for rule in rules]):
        raise InvalidOperation("not rules")


def _are_ascending_names(value):
    """Whether the value is an ascending tuple of names."""
    if not isinstance(value, tuple) or not all([is_name(name) for name in value]):
        return False
    return all([value[at - 1] < value[at] for at in range(1, len(value))])


def _check_promise(writes, promise):
    """Raises InvalidOperation unless the value is a promise for the writes."""
    if not isinstance(promise, tuple) or len(promise) != len(writes) + 1:
        raise InvalidOperation("not names for each moment")
    if not all([_are_ascending_names(names) for names in promise]):
        raise InvalidOperation("not ascending names")


def _check_told(picture, writes, gaps):
    """Raises the errors of a picture, of writes and of gaps."""
    _check_picture(picture)
    _check_writes(picture, writes)
    _check_gaps(writes, gaps)


def _check_plan(picture, writes, gaps, rules, promise):
    """Raises the errors of all that tells a plan."""
    _check_told(picture, writes, gaps)
    _check_rules(picture, rules)
    _check_promise(writes, promise)


def _last_gap(gaps, moment):
    """The last gap ahead of a moment, 0 if there is none."""
    return max([0] + [gap for gap in gaps if gap < moment])


def _versions(picture, writes, last, moment):
    """The versions of each cell at a moment, the last flush ahead of it being behind so many writes."""
    held = list(picture)
    for cell, figure in writes[:last]:
        held[cell] = figure
    found = [[figure] for figure in held]
    for cell, figure in writes[last:moment]:
        found[cell].append(figure)
    return tuple([tuple(versions) for versions in found])


def versions_at(picture, writes, gaps, moment):
    """The tuple with the tuple of the versions of each cell."""
    _check_told(picture, writes, gaps)
    check_number(moment, 0, len(writes))
    return _versions(picture, writes, _last_gap(gaps, moment), moment)


def _cuts_with_pictures(versions):
    """The list of all cuts with the small pictures that they leave."""
    found = [((), ())]
    for there in versions:
        found = [
            (cut + (index,), picture + (figure,))
            for cut, picture in found
            for index, figure in enumerate(there)
        ]
    return found


def pictures_at(picture, writes, gaps, moment):
    """The ascending tuple of all small pictures that can come."""
    versions = versions_at(picture, writes, gaps, moment)
    return tuple(sorted(set([left for cut, left in _cuts_with_pictures(versions)])))


def _picture_left(versions, cut):
    """The small picture that a value leaves as a cut, None if it is no cut."""
    if not isinstance(cut, tuple) or len(cut) != len(versions):
        return None
    if not all([is_number(index, 0, len(there) - 1) for index, there in zip(cut, versions)]):
        return None
    return tuple([there[index] for index, there in zip(cut, versions)])


def picture_of(picture, writes, gaps, moment, cut):
    """The small picture that a cut leaves."""
    left = _picture_left(versions_at(picture, writes, gaps, moment), cut)
    if left is None:
        raise InvalidCut("not a cut at the moment")
    return left


def _fits(picture, pattern):
    """Whether a small picture fits a pattern."""
    return all([figure is None or figure == there for figure, there in zip(pattern, picture)])


def _meaning(picture, rules):
    """The meaning of a small picture; all was checked."""
    for pattern, name in rules:
        if _fits(picture, pattern):
            return name
    return None


def meaning_of(picture, rules):
    """The meaning of a small picture, None if it fits no pattern."""
    _check_picture(picture)
    _check_rules(picture, rules)
    return _meaning(picture, rules)


class Plan:
    """A picture, writes, rules and a promise, and the breaks that were looked for."""

    def __init__(self, picture, writes, rules, promise):
        self.begun = picture
        self.writes = writes
        self.rules = rules
        self.promise = promise
        self.known = {}

    def broken(self, last, moment):
        """A cut that breaks the promise at a moment, the last flush ahead being behind so many writes; or None."""
        if (last, moment) not in self.known:
            self.known[(last, moment)] = self.look(last, moment)
        return self.known[(last, moment)]

    def look(self, last, moment):
        """As broken, without a look at what is known."""
        versions = _versions(self.begun, self.writes, last, moment)
        for cut, left in _cuts_with_pictures(versions):
            if _meaning(left, self.rules) not in self.promise[moment]:
                return cut
        return None

    def broken_by(self, gaps):
        """The first break of some gaps, None if they keep the promise."""
        for moment in range(len(self.writes) + 1):
            cut = self.broken(_last_gap(gaps, moment), moment)
            if cut is not None:
                return (moment, cut)
        return None


def break_of(picture, writes, gaps, rules, promise):
    """A break of the promise, None if the gaps keep it."""
    _check_plan(picture, writes, gaps, rules, promise)
    return Plan(picture, writes, rules, promise).broken_by(gaps)


def keeps(picture, writes, gaps, rules, promise):
    """Whether the gaps keep the promise."""
    return break_of(picture, writes, gaps, rules, promise) is None


def is_break(picture, writes, gaps, rules, promise, value):
    """Whether the value is a pair of a moment and a cut that breaks the promise there."""
    _check_plan(picture, writes, gaps, rules, promise)
    if not isinstance(value, tuple) or len(value) != 2 or not is_number(value[0], 0, len(writes)):
        return False
    moment = value[0]
    left = _picture_left(_versions(picture, writes, _last_gap(gaps, moment), moment), value[1])
    return left is not None and _meaning(left, rules) not in promise[moment]


def _lots_of_gaps(many):
    """All tuples of gaps for so many writes, by their numbers of gaps, and ascending for each."""
    found = [()]
    for gap in range(1, many + 1):
        found = found + [gaps + (gap,) for gaps in found]
    return sorted(found, key=lambda gaps: (len(gaps), gaps))


def least_gaps(picture, writes, rules, promise):
    """The tuple of all lots of least gaps."""
    _check_picture(picture)
    _check_writes(picture, writes)
    _check_rules(picture, rules)
    _check_promise(writes, promise)
    plan = Plan(picture, writes, rules, promise)
    least = []
    for gaps in _lots_of_gaps(len(writes)):
        # More gaps keep what fewer keep: they are least if they have no least ones within them.
        is_more = any([all([gap in gaps for gap in fewer]) for fewer in least])
        if not is_more and plan.broken_by(gaps) is None:
            least.append(gaps)
    return tuple(least)


def needless_gaps(picture, writes, gaps, rules, promise):
    """The ascending tuple of those gaps each of which can be left out alone."""
    _check_plan(picture, writes, gaps, rules, promise)
    plan = Plan(picture, writes, rules, promise)
    if plan.broken_by(gaps) is not None:
        raise Refused(("break",))
    return tuple([gap for gap in gaps if plan.broken_by([one for one in gaps if one != gap]) is None])


def small_turn(many, *, synced=False):
    """The picture, the writes, the rules and the promise of a turn in small with so many rows."""
    check_number(many, 1, MOST_SMALL_ROWS)
    if synced is not True and synced is not False:
        raise InvalidOperation("not True or False")
    picture = (1, 0, 0) + (0,) * many
    rows = tuple([(3 + at, 1) for at in range(many)])
    writes = ((2, 1),) + rows + ((1, 2), (2, 2))
    new, elder = (1,) * many, (None,) * many
    rules = (
        ((None, 2, 2) + new, "c"),
        ((None, 2, None) + new, "b"),
        ((None, 0, 1) + elder, "b"),
        ((None, 0, None) + elder, "a"),
    )
    amid = ("b",) if synced else ("a", "b")
    promise = (("a",), ("a", "b")) + (amid,) * many + (("b",), ("b", "c"))
    return (picture, writes, rules, promise)
