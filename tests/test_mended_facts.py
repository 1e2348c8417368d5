from random import Random

from helpers import Arg, Case, WrongCase, anything
from everycut.errors import InvalidTree
from everycut.mend import facts as facts_module
from everycut.mend.facts import are_fact_forms, mended_facts
from everycut.plain.trees import Tree, facts_fault
from plain_helpers import done_deeds
from volume_helpers import seeds, small_tree

EXAMPLES = '''
>>> SOME = {("kind", 16): "folder", ("name", 0, "a"): 16, ("kind", 32): "file", ("piece", 32, 0): (1, 0, 2, 0, 0, 0, 0, 0), ("name", 0, "b"): 48}
>>> mended_facts(SOME)
{('kind', 16): 'folder', ('kind', 32): 'file', ('name', 0, 'a'): 16, ('name', 0, 'losta'): 32, ('piece', 32, 0): (1, 0, 2, 0, 0, 0, 0, 0), ('size', 32): 3}
>>> mended_facts({("name", 16, "a"): 32, ("name", 32, "b"): 16})
{('kind', 16): 'folder', ('kind', 32): 'folder', ('name', 0, 'losta'): 16, ('name', 16, 'a'): 32}
'''

LETTERS = "abcdefghijklmnopqrstuvwxyz"
MOST = 16 * 10 ** 12 + 15
PIECE = (0, 5, 0, 0, 0, 0, 0, 0)


def lost_names():
    """All names of lifted nodes, in their sequence."""
    for first in LETTERS:
        yield "lost" + first
    for first in LETTERS:
        for second in LETTERS:
            yield "lost" + first + second
    for first in LETTERS:
        for second in LETTERS:
            for third in LETTERS:
                yield "lost" + first + second + third


def slow_mended(facts):
    """The mended facts, step by step as [17.1] says."""
    nodes = {key[1] for key in facts if key[0] != "name"} | {key[1] for key in facts if key[0] == "name" and key[1] != 0}
    kinds = {}
    for node in nodes:
        if ("kind", node) in facts:
            kinds[node] = facts[("kind", node)]
        elif any(key[0] in ("size", "piece") and key[1] == node for key in facts):
            kinds[node] = "file"
        elif any(key[0] == "name" and key[1] == node for key in facts):
            kinds[node] = "folder"
    kept = {key: node for key, node in facts.items() if key[0] == "name" and (key[1] == 0 or kinds.get(key[1]) == "folder") and node in kinds}
    for folder in [node for node in kinds if kinds[node] == "folder"]:
        for key in sorted(key for key in kept if kept[key] == folder)[1:]:
            del kept[key]
    names = lost_names()

    def lift(node):
        for key in [key for key in kept if kept[key] == node]:
            del kept[key]
        name = next(name for name in names if ("name", 0, name) not in kept)
        kept[("name", 0, name)] = node

    while True:
        known = {0}
        while True:
            more = {node for key, node in kept.items() if key[1] in known and kinds[node] == "folder"} - known
            if not more:
                break
            known |= more
        stray = [node for node in sorted(kinds) if kinds[node] == "folder" and node not in known]
        if not stray:
            break
        bare = [node for node in stray if node not in kept.values()]
        lift((bare or stray)[0])
    for node in sorted(kinds):
        if kinds[node] == "file" and node not in kept.values():
            lift(node)
    found = {("kind", node): kind for node, kind in kinds.items()}
    found.update(kept)
    for node in [node for node in kinds if kinds[node] == "file"]:
        numbers = [0] * 96
        for index in range(12):
            numbers[8 * index:8 * index + 8] = facts.get(("piece", node, index), (0,) * 8)
        size = facts.get(("size", node), max([at + 1 for at in range(96) if numbers[at]] + [0]))
        numbers[size:] = [0] * (96 - size)
        found[("size", node)] = size
        for index in range(12):
            if any(numbers[8 * index:8 * index + 8]):
                found[("piece", node, index)] = tuple(numbers[8 * index:8 * index + 8])
    return {key: found[key] for key in sorted(found)}


def some_facts(rng):
    """Facts in any company: few nodes and names, so that they meet."""
    nodes = rng.sample([1, 2, 3, 5, 16, 17, 32, 48, 64, MOST], rng.randrange(1, 8))
    names = ("a", "b", "losta", "lostb", "lostd", "zzzzzzzz")
    found = {}
    for _ in range(rng.randrange(14)):
        node = rng.choice(nodes)
        kind = rng.randrange(8)
        if kind == 0:
            found[("kind", node)] = rng.choice(("folder", "file"))
        elif kind == 1:
            found[("size", node)] = rng.choice((0, 1, 7, 8, 9, 96))
        elif kind == 2:
            found[("piece", node, rng.choice((0, 1, 11)))] = tuple(rng.choice((0, 0, 0, 4, 10 ** 9 - 1)) for _ in range(8))
        else:
            found[("name", rng.choice(nodes + [0]), rng.choice(names))] = rng.choice(nodes)
    return found


class Mended(Case):
    def test_examples(self):
        self.examples(EXAMPLES, vars(facts_module))

    def checked(self, facts):
        before = dict(facts)
        got = mended_facts(facts)
        self.same(facts, before)
        self.same(got, slow_mended(facts))
        self.same([facts_fault(got), list(got) == sorted(got)], [None, True])
        self.same(Tree.of_facts(got).facts, got)
        self.same(mended_facts(got), got)
        return got

    def test_any_company(self):
        rng = Random(210)
        for _ in seeds(0, 1500):
            self.checked(some_facts(rng))

    def test_facts_of_trees(self):
        rng = Random(211)
        for _ in seeds(0, 25):
            facts = done_deeds(rng, rng.choice((5, 40)), "abcd", bars=0)[1].facts
            self.same(mended_facts(facts), facts)
            self.same(mended_facts({key: facts[key] for key in sorted(facts, reverse=True)}), facts)

    def test_some_keys_gone(self):
        rng = Random(212)
        lost = 0
        for _ in seeds(0, 25):
            facts = done_deeds(rng, rng.choice((5, 30)), "abcd", bars=0)[1].facts
            ways = [[key] for key in facts] + [rng.sample(sorted(facts), min(len(facts), rng.randrange(1, 9))) for _ in range(8)]
            for gone in ways:
                left = {key: facts[key] for key in facts if key not in gone}
                got = self.checked(left)
                # Of what is left just the entries of those nodes are left out of which nothing else is told.
                told = {key[1] for key in left}
                for key, fact in left.items():
                    is_told = key[0] != "name" or fact in told
                    self.same(key in got and got[key] == fact, is_told)
                    lost += not is_told
                # No folder is lifted that has its entry.
                entered = {fact for key, fact in left.items() if key[0] == "name"}
                for key, fact in got.items():
                    if key not in facts and key[0] == "name":
                        self.assertFalse(got[("kind", fact)] == "folder" and fact in entered)
        self.assertGreater(lost, 30)

    def test_bent_values(self):
        rng = Random(213)
        for _ in seeds(0, 60):
            facts = done_deeds(rng, 20, "abcd", bars=0)[1].facts
            for key in rng.sample(sorted(facts), min(len(facts), 3)):
                if key[0] == "kind":
                    facts[key] = "file" if facts[key] == "folder" else "folder"
                elif key[0] == "name":
                    facts[key] = rng.choice([16, 32, 48, 999])
                elif key[0] == "size":
                    facts[key] = rng.choice((0, 3, 8, 96))
                else:
                    facts[key] = (0,) * 8
            self.checked(facts)

    def test_rings(self):
        # A ring, and what hangs below it; the least folder is lifted, be it on the ring or not.
        ring = {("name", 48, "a"): 64, ("name", 64, "b"): 48, ("name", 64, "c"): 16, ("name", 16, "d"): 32, ("kind", 32): "folder", ("kind", 16): "folder"}
        got = self.checked(ring)
        self.same({key: node for key, node in got.items() if key[1] == 0},
                  {("name", 0, "losta"): 16, ("name", 0, "lostb"): 48})
        self.same([got[("name", 16, "d")], got[("name", 48, "a")], ("name", 64, "b") in got, ("name", 64, "c") in got], [32, 64, False, False])
        itself = {("name", 16, "a"): 16}
        self.same(self.checked(itself), {("kind", 16): "folder", ("name", 0, "losta"): 16})
        # Those without an entry come first, whatever their numbers are.
        both = {("name", 16, "a"): 32, ("name", 32, "b"): 16, ("kind", 80): "folder", ("kind", 48): "folder", ("name", 80, "x"): 96, ("kind", 96): "folder"}
        got = self.checked(both)
        self.same([got[("name", 0, "lost" + letter)] for letter in "abc"], [48, 80, 16])
        self.same(len([key for key in got if key[0] == "name" and key[1] == 0]), 3)

    def test_entries(self):
        # Two entries of one folder: the least one is kept; entries in files, and of nothing, are left out.
        facts = {("kind", 16): "folder", ("kind", 32): "file", ("name", 0, "b"): 16, ("name", 0, "a"): 16, ("name", 32, "x"): 16, ("name", 0, "c"): 99, ("name", 0, "d"): 32,
                 ("name", 16, "e"): 32}
        got = self.checked(facts)
        self.same([key for key in got if key[0] == "name"], [("name", 0, "a"), ("name", 0, "d"), ("name", 16, "e")])
        # An entry that is not kept does not count as the least one.
        facts = {("kind", 5): "file", ("kind", 16): "folder", ("name", 5, "a"): 16, ("name", 0, "z"): 16, ("name", 0, "f"): 5}
        self.same(("name", 0, "z") in self.checked(facts), True)
        # The kind that is told counts, whatever else is told.
        facts = {("kind", 16): "folder", ("size", 16): 4, ("piece", 16, 0): PIECE, ("kind", 32): "file", ("name", 32, "a"): 16}
        self.same(self.checked(facts), {("kind", 16): "folder", ("kind", 32): "file", ("name", 0, "losta"): 16, ("name", 0, "lostb"): 32, ("size", 32): 0})
        # A size or a piece makes a file, also where it is the folder of an entry.
        facts = {("size", 16): 4, ("name", 16, "a"): 32, ("piece", 32, 11): PIECE}
        self.same(self.checked(facts), {("kind", 16): "file", ("kind", 32): "file", ("name", 0, "losta"): 16, ("name", 0, "lostb"): 32, ("piece", 32, 11): PIECE,
                                        ("size", 16): 4, ("size", 32): 90})

    def test_sizes(self):
        for size, pieces, wanted, left in ((None, {}, None, {}), (0, {0: PIECE}, 0, {}), (1, {0: PIECE}, 1, {}), (2, {0: PIECE}, 2, {0: PIECE}), (None, {0: PIECE}, 2, {0: PIECE}),
                                           (None, {11: (9,) * 8}, 96, {11: (9,) * 8}), (90, {11: (9,) * 8}, 90, {11: (9, 9) + (0,) * 6}), (None, {3: (0,) * 8}, 0, {}),
                                           (96, {3: (0,) * 8, 4: PIECE}, 96, {4: PIECE}), (None, {1: PIECE, 2: (0,) * 8}, 10, {1: PIECE}), (9, {1: PIECE}, 9, {})):
            facts = {("piece", 16, index): piece for index, piece in pieces.items()}
            if size is not None:
                facts[("size", 16)] = size
            got = self.checked(facts)
            self.same(got.get(("size", 16)), wanted)
            self.same({key[2]: piece for key, piece in got.items() if key[0] == "piece"}, left)

    def test_names_of_lifted_nodes(self):
        taken = {("name", 0, "lostb"): 500, ("name", 0, "lostd"): 500, ("name", 0, "lostaa"): 500, ("name", 0, "lost"): 500, ("size", 500): 0}
        facts = {**taken, **{("size", node): 0 for node in range(1, 40)}, **{("kind", node): "folder" for node in range(30, 33)}}
        facts = {key: fact for key, fact in facts.items() if key not in [("size", node) for node in range(30, 33)]}
        got = self.checked(facts)
        self.same([got[("name", 0, "lost" + letters)] for letters in ("a", "c", "e", "f", "z", "ab", "ac")], [30, 31, 32, 1, 21, 22, 23])
        # An entry that is left out does not take its name.
        facts = {("name", 0, "losta"): 77, ("kind", 16): "folder", ("name", 5, "losta"): 16}
        self.same(self.checked(facts)[("name", 0, "losta")], 5)
        self.same([facts_module._lifted_name(at) for at in range(26 + 676 + 5)], [name for _, name in zip(range(707), lost_names())])
        names = list(lost_names())
        self.same([facts_module._lifted_name(at) for at in (702, 18277)], [names[702], names[-1]])

    def test_many_lifted_nodes(self):
        facts = {("size", node): 0 for node in range(1, 800)}
        got = mended_facts(facts)
        names = [name for _, name in zip(range(799), lost_names())]
        self.same([got[("name", 0, name)] for name in names], list(range(1, 800)))
        self.same(mended_facts(got), got)
        # A long chain of folders comes from one that is lifted.
        chain = {("name", node, "a"): node + 1 for node in range(1, 900)}
        chain[("kind", 900)] = "folder"
        got = mended_facts(chain)
        self.same([len(got), got[("name", 0, "losta")], facts_fault(got)], [900 + 900, 1, None])

    def test_forms(self):
        for value in anything() + [[], {("kind", 16): "folders"}, {("kind", 0): "folder"}, {("name", 0, "A"): 16}, {("name", 0, "a"): 0}, {("size", 16): 97}, {("size", 16): True},
                                   {("piece", 16, 12): PIECE}, {("piece", 16, 0): PIECE[1:]}, {("piece", 16, 0): list(PIECE)}, {("kind", MOST + 1): "file"}, {("kind", True): "file"}]:
            wanted = isinstance(value, dict) and not value
            self.same(are_fact_forms(value), wanted)
            if not wanted:
                self.refuses(InvalidTree, None, lambda: mended_facts(value))
        for value in ({}, {("kind", 16): "file"}, {("piece", 16, 0): (0,) * 8}, {("name", 16, "a"): 16}, {("kind", MOST): "folder"}, small_tree(("make", ("a",))).facts):
            self.same(are_fact_forms(value), True)
        self.same(mended_facts({}), {})

    def test_not_true(self):
        # What is lifted can have had an entry.
        self.same(mended_facts({("name", 16, "a"): 16})[("name", 0, "losta")], 16)


class Wrong(WrongCase):
    def test_wrong_arguments(self):
        good = {("kind", 16): "folder"}
        state = lambda: dict(good)
        self.wrong_calls(mended_facts, [Arg(good, lambda value: type(value) is dict and not value, InvalidTree, [{("kind", 16): 1}, {16: "folder"}, {("a",): 1}])], state)
        got = mended_facts(good)
        got.clear()
        self.same(good, {("kind", 16): "folder"})
