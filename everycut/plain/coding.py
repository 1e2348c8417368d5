"""Trees as rows, and deeds as cells."""

from everycut.base.names import are_cells
from everycut.base.names import name_cell
from everycut.base.names import name_of_cell
from everycut.errors import InvalidBlock
from everycut.errors import InvalidTree
from everycut.errors import Refused
from everycut.errors import TooMany
from everycut.plain.deeds import MAX_NAMES
from everycut.plain.deeds import MAX_TOGETHER
from everycut.plain.deeds import MAX_WRITTEN
from everycut.plain.deeds import PATHS_WORDS
from everycut.plain.deeds import SHOT_WORDS
from everycut.plain.deeds import check_deed
from everycut.plain.deeds import is_deed
from everycut.plain.facts import NOUGHTS
from everycut.plain.facts import fault_of
from everycut.plain.facts import is_fact_key
from everycut.plain.facts import is_fact_value
from everycut.plain.trees import Tree
from everycut.plain.trees import check_tree
from everycut.rows.cells import MOST_ROWS
from everycut.rows.cells import check_rows

MOST_DEED = 400

# The cell that begins a key of a row is the index of the word here, and the cell of a kind its index.
WORDS = ("", "kind", "name", "size", "piece")
KINDS = ("file", "folder")
# The cell of a word of a deed is its index here.
DEED_WORDS = ("", "make", "folder", "write", "cut", "link", "drop", "move", "snap", "unsnap", "back", "order", "all")


def _row_key(key):
    """The key of the row of a fact with this key."""
    cell = WORDS.index(key[0])
    return (cell, key[1], name_cell(key[2])) if key[0] == "name" else (cell,) + key[1:]


def _row_value(key, value):
    """The value of the row of a fact."""
    if key[0] == "kind":
        return (KINDS.index(value),)
    return value if key[0] == "piece" else (value,)


def rows_of_tree(tree):
    """The rows of the facts of a tree."""
    check_tree(tree)
    facts = tree.facts
    if len(facts) > MOST_ROWS:
        raise TooMany(MOST_ROWS)
    rows = [(_row_key(key), _row_value(key, value)) for key, value in facts.items()]
    return tuple(sorted(rows))


def _fact_told(key, value):
    """The pair of the key and the value of the fact that a row tells, None if it tells none."""
    if key[0] not in range(1, len(WORDS)):
        return None
    told = (WORDS[key[0]],) + key[1:]
    if told[0] == "name" and len(told) == 3:
        told = told[:2] + (name_of_cell(told[2]),)
    if not is_fact_key(told) or (told[0] != "piece" and len(value) != 1):
        return None
    fact = value if told[0] == "piece" else value[0]
    if told[0] == "kind":
        fact = KINDS[fact] if fact < len(KINDS) else None
    return (told, fact) if fact != NOUGHTS and is_fact_value(told, fact) else None


def facts_told(rows):
    """The dict of the facts that rows tell, and the list of the keys of those that tell none."""
    facts = {}
    others = []
    for key, value in rows:
        told = _fact_told(key, value)
        if told is None:
            others.append(key)
        else:
            facts[told[0]] = told[1]
    return (facts, others)


def fault_of_rows(rows):
    """The first fault of rows, which were checked, None if they are those of a tree."""
    facts, others = facts_told(rows)
    return ("row", others[0]) if others else fault_of(facts)


def tree_of_rows(rows):
    """The weighed tree with these rows, without shots."""
    check_rows(rows)
    fault = fault_of_rows(rows)
    if fault is not None:
        raise Refused(fault)
    return Tree.of_facts(facts_told(rows)[0])


def rows_fault(rows):
    """The first fault of rows, None if they are those of a tree."""
    check_rows(rows)
    return fault_of_rows(rows)


def facts_of_rows(rows):
    """The dict of the facts that rows tell, and the ascending tuple of the keys of those that tell none."""
    check_rows(rows)
    facts, others = facts_told(rows)
    return ({key: facts[key] for key in sorted(facts)}, tuple(others))


def _are_fact_changes(value):
    """Whether the value is a dict of at most 2,000 keys of facts to values that these can have, or None."""
    if not isinstance(value, dict) or len(value) > MOST_ROWS or not all([is_fact_key(key) for key in value]):
        return False
    news = [(key, new) for key, new in value.items() if new is not None]
    return all([is_fact_value(key, new) and new != NOUGHTS for key, new in news])


def row_changes(changes):
    """The changes of rows that tell some changes of facts."""
    if not _are_fact_changes(changes):
        raise InvalidTree("not changes of facts")
    found = {_row_key(key): None if new is None else _row_value(key, new) for key, new in changes.items()}
    return {key: found[key] for key in sorted(found)}


def _member_cells(member):
    """What tells a member of a deed: a place or size, a name, a path, or numbers."""
    if isinstance(member, int):
        return (member,)
    if isinstance(member, str):
        return (name_cell(member),)
    return (len(member),) + tuple([cell for one in member for cell in _member_cells(one)])


def cells_of_deed(deed):
    """The cells of a deed, which was checked."""
    cells = (DEED_WORDS.index(deed[0]),)
    if deed[0] == "all":
        return cells + (len(deed[1]),) + tuple([cell for part in deed[1] for cell in cells_of_deed(part)])
    for member in deed[1:]:
        cells = cells + _member_cells(member)
    return cells


def deed_cells(deed):
    """The cells of a deed."""
    check_deed(deed)
    return cells_of_deed(deed)


class Telling:
    """Cells that are read one behind the other; what is not there is read as None."""

    def __init__(self, cells):
        self.cells = cells
        self.at = 0

    def cell(self):
        """The next cell."""
        self.at += 1
        return self.cells[self.at - 1] if self.at <= len(self.cells) else None

    def name(self):
        """The next name."""
        cell = self.cell()
        return None if cell is None else name_of_cell(cell)

    def many(self, most):
        """How many members come next; 0 for more than any deed has, as it is no deed then."""
        cell = self.cell()
        return cell if cell is not None and cell <= most else 0

    def path(self):
        """The next path."""
        return tuple([self.name() for _ in range(self.many(MAX_NAMES))])

    def numbers(self):
        """The next numbers."""
        return tuple([self.cell() for _ in range(self.many(MAX_WRITTEN))])

    def word(self):
        """The next word."""
        cell = self.cell()
        return DEED_WORDS[cell] if cell is not None and cell < len(DEED_WORDS) else ""

    def part(self, word):
        """The rest of a deed of one of the first seven words."""
        path = self.path()
        if word in PATHS_WORDS:
            return (word, path, self.path())
        if word == "write":
            start = self.cell()
            return (word, path, start, self.numbers())
        return (word, path, self.cell()) if word == "cut" else (word, path)

    def deed(self):
        """The next deed; something that is no deed, if the cells tell none."""
        word = self.word()
        if word in SHOT_WORDS:
            return (word, self.name())
        if word == "order":
            return (word,)
        if word == "all":
            return (word, tuple([self.part(self.word()) for _ in range(self.many(MAX_TOGETHER))]))
        return self.part(word)


def deed_in_cells(cells):
    """The deed that cells tell, None if there is none; the cells were checked."""
    telling = Telling(cells)
    deed = telling.deed()
    return deed if telling.at == len(cells) and is_deed(deed) else None


def deed_told(cells):
    """The deed with these cells, None if there is none."""
    if not are_cells(cells, MOST_DEED):
        raise InvalidBlock("not a tuple of at most 400 cells")
    return deed_in_cells(cells)
