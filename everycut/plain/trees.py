"""Plain trees of folders and files, and what deeds do to them."""

from everycut.base.checks import check_number
from everycut.base.checks import is_number
from everycut.base.names import check_path
from everycut.errors import InvalidNumber
from everycut.errors import InvalidTree
from everycut.errors import Refused
from everycut.errors import UnknownName
from everycut.plain.deeds import SHOT_WORDS
from everycut.plain.deeds import check_deed
from everycut.plain.effects import file_numbers
from everycut.plain.effects import stages
from everycut.plain.facts import MOST_DOING
from everycut.plain.facts import MOST_NODE
from everycut.plain.facts import fault_of
from everycut.plain.paths import entry_names
from everycut.plain.paths import node_of_path

MAX_SHOTS = 6

MOST_ROOM = 10 ** 9


def _sorted_facts(facts):
    """The facts with their keys ascending."""
    return {key: facts[key] for key in sorted(facts)}


def _held_tree(facts, shots, weight):
    """The tree with these facts, these shots (names and facts), and this weight."""
    tree = Tree()
    tree._facts = facts
    tree._shots = shots
    tree._weight = weight
    return tree


class Tree:
    """A tree of folders and files with its shots; it never changes."""

    def __init__(self):
        # Trees share these dicts with one another: none of them is changed once it stands here.
        self._facts = {}
        self._shots = {}
        self._weight = 0

    @classmethod
    def of_facts(cls, facts):
        """The weighed tree with these facts, without shots."""
        if fault_of(facts) is not None:
            raise InvalidTree("not the facts of a tree")
        tree = cls()
        tree._facts = _sorted_facts(facts)
        tree._weight = len(facts)
        return tree

    @property
    def facts(self):
        """The dict of the facts, keys ascending."""
        return _sorted_facts(self._facts)

    @property
    def shots(self):
        """The ascending tuple of the names of the shots."""
        return tuple(sorted(self._shots))

    @property
    def rows(self):
        """The number of the facts and of those of all shots."""
        return len(self._facts) + sum([len(facts) for facts in self._shots.values()])

    @property
    def weight(self):
        """The number of rows when the tree was last weighed, and all growths since then."""
        return self._weight

    def shot(self, name):
        """The weighed tree of a shot, without shots."""
        if not isinstance(name, str) or name not in self._shots:
            raise UnknownName(name)
        facts = self._shots[name]
        return _held_tree(facts, {}, len(facts))

    def weighed(self):
        """An equal tree whose weight is the number of its rows."""
        return _held_tree(self._facts, self._shots, self.rows)

    def node_at(self, path):
        """The node to which a path leads, None if it leads to none."""
        check_path(path)
        return node_of_path(self._facts, path)

    def kind_of(self, node):
        """The kind of a node, None for every value that is none."""
        if not is_number(node, 0, MOST_NODE):
            return None
        return "folder" if node == 0 else self._facts.get(("kind", node))

    def names_in(self, node):
        """The ascending tuple of the names of the entries of a folder."""
        if self.kind_of(node) != "folder":
            raise InvalidNumber(node)
        return tuple(entry_names(self._facts, node))

    def numbers_of(self, node):
        """The tuple of the numbers of a file."""
        if self.kind_of(node) != "file":
            raise InvalidNumber(node)
        return tuple(file_numbers(self._facts, node))

    def paths(self):
        """The ascending tuple of all paths that lead to nodes, but for that to the top folder."""
        entries = {}
        for key, node in self._facts.items():
            if key[0] == "name":
                entries.setdefault(key[1], []).append((key[2], node))
        found = []
        waiting = [((), 0)]
        while waiting:
            path, folder = waiting.pop()
            for name, node in entries.get(folder, []):
                found.append(path + (name,))
                waiting.append((path + (name,), node))
        return tuple(sorted(found))

    def __eq__(self, value):
        return isinstance(value, Tree) and self._facts == value._facts and self._shots == value._shots

    def __len__(self):
        return len([0] + [key for key in self._facts if key[0] == "kind"])

    def __str__(self):
        return f"tree of {len(self)} nodes, {len(self._shots)} shots"


def tree_with(facts):
    """The weighed tree with the facts that stand under None, and with shots of those under the other names."""
    shots = {name: there for name, there in facts.items() if name is not None}
    return _held_tree(facts[None], shots, sum([len(there) for there in facts.values()]))


def check_tree(tree):
    """Raises InvalidTree unless the value is a tree."""
    if not isinstance(tree, Tree):
        raise InvalidTree("not a tree")


def check_doing(tree, number, deed):
    """Raises the errors of the functions that do a deed to a tree, but for refusals."""
    check_tree(tree)
    check_number(number, 1, MOST_DOING)
    check_deed(deed)


def _check_room(room):
    """Raises InvalidNumber unless the value is a room, or None."""
    if room is not None:
        check_number(room, 0, MOST_ROOM)


def _shot_outcome(tree, deed):
    """The triple as of _outcome for a deed with the name of a shot."""
    word, name = deed
    facts, shots = tree._facts, tree._shots
    if (name in shots) == (word == "snap"):
        return (("snapshot", name), facts, shots)
    if word == "back":
        return (None, shots[name], shots)
    if word == "snap":
        return (None, facts, {**shots, name: facts})
    return (None, facts, {there: shots[there] for there in shots if there != name})


def _outcome(tree, number, deed):
    """The reason for which a deed is refused, room left out, and the facts and the shots behind it."""
    if deed[0] in SHOT_WORDS:
        return _shot_outcome(tree, deed)
    if deed[0] == "order":
        return (None, tree._facts, tree._shots)
    reason, found = stages(tree._facts, number, deed)
    return (reason, None if reason is not None else found[-1][0], tree._shots)


def _growth(tree, deed, behind):
    """The growth of a deed that is done, with these facts behind it."""
    if deed[0] == "snap":
        return len(behind)
    return len([key for key in behind if key not in tree._facts])


def _tried(tree, number, deed, room):
    """The reason for which a deed is refused, None if it is done, and the tree behind it."""
    reason, facts, shots = _outcome(tree, number, deed)
    if reason is not None:
        return (reason, None)
    grown = _growth(tree, deed, facts)
    is_above = room is not None and grown > 0 and tree.weight + grown > room
    if is_above or len(shots) > MAX_SHOTS:
        return (("room",), None)
    return (None, _held_tree(facts, shots, tree.weight + grown))


def done(tree, number, deed, *, room=None):
    """The tree behind a deed with this number."""
    check_doing(tree, number, deed)
    _check_room(room)
    reason, behind = _tried(tree, number, deed, room)
    if reason is not None:
        raise Refused(reason)
    return behind


def refusal(tree, number, deed, *, room=None):
    """The reason for which a deed is refused, None if it is done."""
    check_doing(tree, number, deed)
    _check_room(room)
    return _tried(tree, number, deed, room)[0]


def growth(tree, number, deed):
    """How many facts come to be by a deed; for a snap the number of all facts."""
    check_doing(tree, number, deed)
    reason, facts, _ = _outcome(tree, number, deed)
    if reason is not None:
        raise Refused(reason)
    return _growth(tree, deed, facts)


def changes(tree, number, deed):
    """The dict from the keys of the facts that a deed changes to their new values, None for those that are gone."""
    check_doing(tree, number, deed)
    ahead, behind = tree._facts, done(tree, number, deed)._facts
    unlike = sorted([key for key in {**ahead, **behind} if ahead.get(key) != behind.get(key)])
    return {key: behind.get(key) for key in unlike}


def facts_fault(value):
    """The first fault for which the value is not the facts of a tree, None if it is."""
    return fault_of(value)
