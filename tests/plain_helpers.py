"""A plain model of folders and files for the tests: paths, and no facts."""

from helpers import Arg, is_int
from everycut.errors import InvalidDeed, InvalidTree
from everycut.plain.deeds import is_deed
from everycut.plain.trees import Tree, done

NAMES = ("a", "b", "c", "d")


class Model:
    """A tree told by all its paths; nodes that are files have their numbers."""

    def __init__(self):
        self.paths = {(): 0}
        self.files = {}
        self.shots = {}

    def twin(self):
        model = Model()
        model.paths, model.files, model.shots = dict(self.paths), dict(self.files), dict(self.shots)
        return model

    def is_file(self, path):
        return self.paths[path] in self.files

    def facts(self):
        found = {}
        for path, node in self.paths.items():
            if path:
                found[("name", self.paths[path[:-1]], path[-1])] = node
                found[("kind", node)] = "file" if node in self.files else "folder"
        for node, numbers in self.files.items():
            found[("size", node)] = len(numbers)
            for index in range(12):
                piece = tuple(numbers[8 * index:8 * index + 8])
                if any(piece):
                    found[("piece", node, index)] = piece + (0,) * (8 - len(piece))
        return {key: found[key] for key in sorted(found)}

    def along(self, path):
        for length in range(1, len(path) + 1):
            if path[:length] not in self.paths:
                return ("gone", path[:length])
            if length < len(path) and self.is_file(path[:length]):
                return ("file", path[:length])
        return None

    def along_parent(self, path):
        if self.along(path[:-1]):
            return self.along(path[:-1])
        return ("file", path[:-1]) if self.is_file(path[:-1]) else None

    def inside(self, path):
        return [one for one in self.paths if len(one) > len(path) and one[:len(path)] == path]

    def reason(self, deed, number=1):
        """Why a deed is refused, room left out, straight as [8.4] says."""
        word, rest = deed[0], deed[1:]
        if word == "order":
            return None
        if word in ("snap", "unsnap", "back"):
            return ("snapshot", rest[0]) if (rest[0] in self.shots) == (word == "snap") else None
        if word == "all":
            model = self.twin()
            for index, part in enumerate(rest[0]):
                if model.reason(part):
                    return ("all", index, model.reason(part))
                model.do_part(part, 16 * number + index)
            return None
        path = rest[0]
        if word in ("make", "folder"):
            return self.along_parent(path) or (("there", path) if path in self.paths else None)
        if self.along(path):
            return self.along(path)
        if word in ("link", "move") and self.along_parent(rest[1]):
            return self.along_parent(rest[1])
        is_file = self.is_file(path)
        if word == "move":
            return self.move_reason(path, rest[1], is_file)
        if word == "drop":
            return ("full", path) if self.inside(path) else None
        if not is_file:
            return ("folder", path)
        if word == "write" and rest[1] + len(rest[2]) > 96:
            return ("long",)
        if word == "link" and rest[1] in self.paths:
            return ("there", rest[1])
        return None

    def move_reason(self, path, new, is_file):
        if path == new:
            return None
        if is_file:
            return ("folder", new) if new in self.paths and not self.is_file(new) else None
        if new in self.paths:
            return ("there", new)
        if new in self.inside(path) or new[:len(path)] == path:
            return ("ring",)
        if any(len(one) - len(path) + len(new) > 8 for one in self.inside(path)):
            return ("long",)
        return None

    def do(self, deed, number):
        """Does a deed that is not refused."""
        word = deed[0]
        if word == "snap":
            self.shots[deed[1]] = (dict(self.paths), dict(self.files))
        elif word == "unsnap":
            del self.shots[deed[1]]
        elif word == "back":
            self.paths, self.files = map(dict, self.shots[deed[1]])
        elif word == "all":
            for index, part in enumerate(deed[1]):
                self.do_part(part, 16 * number + index)
        elif word != "order":
            self.do_part(deed, 16 * number)

    def do_part(self, deed, node):
        word, path = deed[0], deed[1]
        if word in ("make", "folder"):
            self.paths[path] = node
            if word == "make":
                self.files[node] = ()
        elif word == "write":
            old = self.files[self.paths[path]]
            new = list(old) + [0] * max(0, deed[2] + len(deed[3]) - len(old))
            new[deed[2]:deed[2] + len(deed[3])] = deed[3]
            self.files[self.paths[path]] = tuple(new)
        elif word == "cut":
            self.files[self.paths[path]] = self.files[self.paths[path]][:deed[2]]
        elif word == "link":
            self.paths[deed[2]] = self.paths[path]
        elif word == "drop":
            del self.paths[path]
        elif path != deed[2]:
            moved = {one: self.paths.pop(one) for one in [path] + self.inside(path)}
            for one, there in moved.items():
                self.paths[deed[2] + one[len(path):]] = there
        self.files = {node: numbers for node, numbers in self.files.items() if node in self.paths.values()}


def some_path(rng, model, names=NAMES):
    """A path of one to eight names, often one that leads to a node, or that leads to none within a folder."""
    kind = rng.randrange(10)
    there = sorted(model.paths)
    if kind < 5 and len(there) > 1:
        return rng.choice(there[1:])
    if kind < 9:
        folders = [path for path in there if len(path) < 8 and not model.is_file(path)]
        return rng.choice(folders) + (rng.choice(names),)
    return tuple(rng.choice(names) for _ in range(rng.randrange(1, 5)))


def some_numbers(rng, least=1):
    return tuple(rng.choice((0, 0, 0, 1, 5, 10 ** 9 - 1)) for _ in range(rng.choice((least, 1, 3, 8, 9, 16, 20, 32))))


PART_WORDS = ("make", "folder", "write", "write", "cut", "link", "drop", "move", "move")


def some_part(rng, model, names=NAMES, words=PART_WORDS):
    word = rng.choice(words)
    path = some_path(rng, model, names)
    if word == "write":
        return (word, path, rng.choice((0, 1, 7, 8, 9, 20, 64, 90, 95, 96)), some_numbers(rng))
    if word == "cut":
        return (word, path, rng.choice((0, 1, 5, 8, 15, 16, 24, 60, 96)))
    if word in ("link", "move"):
        return (word, path, some_path(rng, model, names))
    return (word, path)


def some_deed(rng, model, names=NAMES, bars=2):
    """A deed of any word; of a hundred, some two bars of each word, if not told otherwise."""
    kind = rng.randrange(100)
    if kind < 4 * bars:
        word = ("snap", "unsnap", "back", "order")[kind % 4]
        return (word,) if word == "order" else (word, rng.choice("stuv"))
    if kind < 4 * bars + 12:
        rehearsed = model.twin()
        parts = []
        for at in range(rng.randrange(2, 7)):
            part = some_part(rng, rehearsed, names)
            parts.append(part)
            if rehearsed.reason(part) is None:
                rehearsed.do_part(part, 16 * 10 ** 9 + at)
        return ("all", tuple(parts))
    return some_part(rng, model, names)


def done_deeds(rng, many, names=NAMES, bars=2, tree=None, first=1):
    """Deeds that are done one after the other: a list of (number, deed, tree ahead), and the last tree and model."""
    model, tree, found = Model(), Tree(), []
    number = first
    while len(found) < many:
        deed = some_deed(rng, model, names, bars)
        if model.reason(deed, number) is None and not (deed[0] == "snap" and len(model.shots) == 6):
            found.append((number, deed, tree))
            tree = done(tree, number, deed)
            model.do(deed, number)
            number += rng.choice((1, 1, 2))
    return found, tree, model


def full_tree(rng, many=60):
    return done_deeds(rng, many)[1]

def model_of(tree):
    """The model with the nodes of a tree."""
    model = Model()
    for path in tree.paths():
        node = tree.node_at(path)
        model.paths[path] = node
        if tree.kind_of(node) == "file":
            model.files[node] = tree.numbers_of(node)
    return model


def _part_told(model, part, made):
    """The keys that a part reads, and the dict of what it sets, straight as [9.1] says; the part is done."""
    word, path = part[0], part[1]
    ahead = model.twin()
    model.do_part(part, made)
    paths = [path] + ([part[2]] if word in ("link", "move") else [])
    entry = {one: ("name", ahead.paths[one[:-1]], one[-1]) for one in paths}
    read = {("name", ahead.paths[one[:at]], one[at]) for one in paths for at in range(len(one))}
    node = ahead.paths.get(path, made)
    told = {}
    if word in ("make", "folder"):
        told = {entry[path]: node, ("kind", node): "folder" if word == "folder" else "file"}
        if word == "make":
            told[("size", node)] = 0
    elif word in ("write", "cut"):
        old, new = ahead.files[node], model.files[node]
        read |= {("size", node)}
        if word == "write":
            put = set(range(part[2], part[2] + len(part[3])))
        else:
            put = set(range(part[2], len(old)))
        for index in range(12):
            places = set(range(8 * index, 8 * index + 8))
            if put & places:
                piece = (new[8 * index:8 * index + 8] + (0,) * 8)[:8]
                told[("piece", node, index)] = piece if any(piece) else None
                keeps = len(put & places) < 8 if word == "write" else min(places) < part[2]
                if keeps:
                    read |= {("piece", node, index)}
        if (len(new) > len(old)) if word == "write" else (len(new) < len(old)):
            told[("size", node)] = len(new)
    elif word == "link":
        told = {entry[part[2]]: node}
    elif word == "drop":
        told = {entry[path]: None}
        read |= set() if node in ahead.files else {("names", node)}
    elif path != part[2]:
        told = {entry[path]: None, entry[part[2]]: node}
        if node not in ahead.files:
            read |= {("names", ahead.paths[one]) for one in [path] + ahead.inside(path) if not ahead.is_file(one)}
    return read, told


def _told(tree, number, deed):
    model = model_of(tree)
    parts = deed[1] if deed[0] == "all" else (deed,)
    read, told = set(), {}
    for index, part in enumerate(parts):
        one, more = _part_told(model, part, 16 * number + index)
        read |= one - set(told)
        told.update(more)
    return read, told


def slow_reads(tree, number, deed):
    return tuple(sorted(_told(tree, number, deed)[0]))


def slow_sets(tree, number, deed):
    told = _told(tree, number, deed)[1]
    return {key: told[key] for key in sorted(told)}


def tree_arg(good):
    return Arg(good, lambda value: isinstance(value, Tree), InvalidTree, [{}, (), {("kind", 16): "file"}])


WRONG_DEEDS = [("make",), ("make", ()), ("make", "a"), ("make", ["a"]), ("make", ("a",) * 9), ("make", ("A",)), ["make", ("a",)],
               ("order", 1), ("snap", ("a",)), ("snap",), ("fold", ("a",)), ("drop", ("a",), 0), (("a",), "make")]


def deed_arg(good):
    return Arg(good, is_deed, InvalidDeed, WRONG_DEEDS)


def number_ok(value):
    return is_int(value, 1, 10 ** 12)
