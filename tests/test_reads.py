from random import Random

from helpers import Arg, Case, WrongCase, anything, number
from everycut.errors import InvalidDeed, InvalidNumber, InvalidTree, Refused
from everycut.plain.deeds import is_deed
from everycut.plain.reads import is_bar, reads, sets
from everycut.plain.trees import Tree, done, facts_fault, refusal
from plain_helpers import WRONG_DEEDS, done_deeds, slow_reads, slow_sets, tree_arg

# The file f with nine numbers and the folder b in the folder a, and the empty file e.
SOME = Tree()
for at, deed in enumerate((("folder", ("a",)), ("folder", ("a", "b")), ("make", ("a", "f")), ("make", ("e",)),
                           ("write", ("a", "f"), 0, (1, 2, 3, 4, 5, 6, 7, 8, 9)))):
    SOME = done(SOME, at + 1, deed)
A, B, F, E = ("name", 0, "a"), ("name", 16, "b"), ("name", 16, "f"), ("name", 0, "e")
SIZE, FIRST, LAST = ("size", 48), ("piece", 48, 0), ("piece", 48, 1)


class Words(Case):
    def told(self, deed, read, set_):
        self.same(reads(SOME, 9, deed), tuple(sorted(read)))
        self.same(sets(SOME, 9, deed), {key: set_[key] for key in sorted(set_)})

    def test_makes(self):
        self.told(("make", ("n",)), [("name", 0, "n")], {("name", 0, "n"): 144, ("kind", 144): "file", ("size", 144): 0})
        self.told(("folder", ("a", "b", "n")), [A, B, ("name", 32, "n")], {("name", 32, "n"): 144, ("kind", 144): "folder"})

    def test_writes(self):
        path = ("a", "f")
        self.told(("write", path, 0, (1,) * 8), [A, F, SIZE], {FIRST: (1,) * 8})
        self.told(("write", path, 0, (1,) * 7), [A, F, SIZE, FIRST], {FIRST: (1,) * 7 + (8,)})
        self.told(("write", path, 0, (0,) * 8), [A, F, SIZE], {FIRST: None})
        self.told(("write", path, 1, (0,) * 7), [A, F, SIZE, FIRST], {FIRST: (1,) + (0,) * 7})
        # What is set need not be changed.
        self.told(("write", path, 7, (8, 9)), [A, F, SIZE, FIRST, LAST], {FIRST: (1, 2, 3, 4, 5, 6, 7, 8), LAST: (9,) + (0,) * 7})
        self.told(("write", path, 8, (0,)), [A, F, SIZE, LAST], {LAST: None})
        self.told(("write", path, 9, (0,)), [A, F, SIZE, LAST], {LAST: (9,) + (0,) * 7, SIZE: 10})
        # The pieces between the size and the start are not touched.
        self.told(("write", path, 25, (0, 7)), [A, F, SIZE, ("piece", 48, 3)], {("piece", 48, 3): (0, 0, 7) + (0,) * 5, SIZE: 27})
        self.told(("write", path, 32, (0,)), [A, F, SIZE, ("piece", 48, 4)], {("piece", 48, 4): None, SIZE: 33})
        self.told(("write", path, 88, (5,) * 8), [A, F, SIZE], {("piece", 48, 11): (5,) * 8, SIZE: 96})
        self.told(("write", path, 4, (5,) * 20), [A, F, SIZE, FIRST],
                  {FIRST: (1, 2, 3, 4, 5, 5, 5, 5), LAST: (5,) * 8, ("piece", 48, 2): (5,) * 8, SIZE: 24})
        self.told(("write", path, 0, (5,) * 32), [A, F, SIZE], {**{("piece", 48, at): (5,) * 8 for at in range(4)}, SIZE: 32})

    def test_cuts(self):
        path = ("a", "f")
        for size in (9, 10, 16, 96):
            self.told(("cut", path, size), [A, F, SIZE], {})
        self.told(("cut", path, 8), [A, F, SIZE], {LAST: None, SIZE: 8})
        self.told(("cut", path, 7), [A, F, SIZE, FIRST], {FIRST: (1, 2, 3, 4, 5, 6, 7, 0), LAST: None, SIZE: 7})
        self.told(("cut", path, 0), [A, F, SIZE], {FIRST: None, LAST: None, SIZE: 0})
        self.told(("cut", ("e",), 0), [E, ("size", 64)], {})
        # A piece that is all 0 is set, too.
        tree = done(SOME, 6, ("write", path, 30, (7,)))
        self.same(sets(tree, 9, ("cut", path, 12)), {LAST: (9,) + (0,) * 7, ("piece", 48, 2): None, ("piece", 48, 3): None, SIZE: 12})
        self.same(reads(tree, 9, ("cut", path, 12)), (A, F, LAST, SIZE))
        self.same(sets(tree, 9, ("cut", path, 30)), {("piece", 48, 3): None, SIZE: 30})

    def test_links_and_drops(self):
        self.told(("link", ("a", "f"), ("n",)), [A, F, ("name", 0, "n")], {("name", 0, "n"): 48})
        self.told(("link", ("e",), ("a", "b", "n")), [E, A, B, ("name", 32, "n")], {("name", 32, "n"): 64})
        self.told(("drop", ("a", "f")), [A, F], {F: None})
        self.told(("drop", ("a", "b")), [A, B, ("names", 32)], {B: None})

    def test_moves(self):
        self.told(("move", ("e",), ("n",)), [E, ("name", 0, "n")], {E: None, ("name", 0, "n"): 64})
        self.told(("move", ("e",), ("a", "f")), [E, A, F], {E: None, F: 64})
        self.told(("move", ("a", "f"), ("a", "f")), [A, F], {})
        self.told(("move", ("a",), ("a",)), [A], {})
        self.told(("move", ("a", "b"), ("b",)), [A, B, ("name", 0, "b"), ("names", 32)], {B: None, ("name", 0, "b"): 32})
        self.told(("move", ("a",), ("n",)), [A, ("name", 0, "n"), ("names", 16), ("names", 32)], {A: None, ("name", 0, "n"): 16})
        linked = done(SOME, 6, ("link", ("e",), ("n",)))
        self.same(sets(linked, 9, ("move", ("e",), ("n",))), {E: None, ("name", 0, "n"): 64})

    def test_together(self):
        self.told(("all", (("folder", ("n",)), ("make", ("n", "m")), ("write", ("n", "m"), 0, (7,)))),
                  [("name", 0, "n"), ("name", 144, "m"), ("piece", 145, 0)],
                  {("name", 0, "n"): 144, ("kind", 144): "folder", ("name", 144, "m"): 145, ("kind", 145): "file", ("size", 145): 1,
                   ("piece", 145, 0): (7,) + (0,) * 7})
        # The last word counts; what is gone in the end was set; a key that is set behind it is read.
        self.told(("all", (("cut", ("a", "f"), 4), ("write", ("a", "f"), 2, (7, 7, 7)))), [A, F, SIZE, FIRST],
                  {FIRST: (1, 2, 7, 7, 7, 0, 0, 0), LAST: None, SIZE: 5})
        self.told(("all", (("make", ("n",)), ("drop", ("n",)))), [("name", 0, "n")],
                  {("name", 0, "n"): None, ("kind", 144): "file", ("size", 144): 0})
        self.told(("all", (("drop", ("a", "f")), ("drop", ("a", "b")), ("drop", ("a",)))), [A, B, F, ("names", 16), ("names", 32)],
                  {F: None, B: None, A: None})
        self.told(("all", (("make", ("n",)), ("move", ("n",), ("m",)))), [("name", 0, "n"), ("name", 0, "m")],
                  {("name", 0, "n"): None, ("name", 0, "m"): 144, ("kind", 144): "file", ("size", 144): 0})

    def test_bars(self):
        for value in [("order",), ("snap", "a"), ("unsnap", "abc"), ("back", "z")]:
            self.assertIs(is_bar(value), True)
        for value in anything() + WRONG_DEEDS + [("make", ("a",)), ("all", (("drop", ("a",)),) * 2), ("snap", "A"), ["order"]]:
            self.assertIs(is_bar(value), False)


class Drawn(Case):
    def test_straight_from_the_words(self):
        rng = Random(90)
        for _ in range(25):
            found, _, _ = done_deeds(rng, 40, bars=0)
            for number_, deed, tree in found:
                self.same(reads(tree, number_, deed), slow_reads(tree, number_, deed))
                self.same(sets(tree, number_, deed), slow_sets(tree, number_, deed))

    def test_what_is_set_leads_to_the_facts_behind(self):
        rng = Random(91)
        for number_, deed, tree in done_deeds(rng, 200, bars=0)[0]:
            behind = {**tree.facts, **sets(tree, number_, deed)}
            behind = {key: value for key, value in behind.items() if value is not None}
            entered = [node for key, node in behind.items() if key[0] == "name"]
            behind = {key: behind[key] for key in sorted(behind) if key[0] == "name" or key[1] in entered}
            self.same(done(tree, number_, deed).facts, behind)

    def other_facts(self, rng, tree):
        """The facts of a tree that differs in one key alone from this one, and the key; None if it is none."""
        facts = tree.facts
        key = rng.choice(sorted(facts))
        files = [one[1] for one in facts if facts[one] == "file"]
        if key[0] == "kind" or not files:
            return None
        if key[0] == "name":
            folder = rng.choice([0] + [one[1] for one in facts if facts[one] == "folder"])
            key = rng.choice((key, ("name", folder, rng.choice("abcd"))))
            value = rng.choice((None, rng.choice(files)))
        elif key[0] == "size":
            value = rng.randrange(97)
        else:
            key = rng.choice((key, ("piece", rng.choice(files), rng.randrange(4))))
            value = rng.choice((None, (rng.randrange(3), 0, 0, rng.randrange(3), 0, 0, 0, 2), (9,) * 8, (4,) + (0,) * 7))
        other = {**facts, key: value}
        other = {one: fact for one, fact in other.items() if fact is not None}
        return None if other == facts or facts_fault(other) is not None else (other, key)

    def test_other_trees(self):
        rng = Random(92)
        alike, unlike = 0, {}
        for _ in range(12):
            for number_, deed, tree in done_deeds(rng, 60, bars=0)[0]:
                read, told = reads(tree, number_, deed), sets(tree, number_, deed)
                for _ in range(30):
                    other = self.other_facts(rng, tree) if tree.rows else None
                    if other is None:
                        continue
                    facts, key = other
                    twin = Tree.of_facts(facts)
                    is_read = key in read or (key[0] == "name" and ("names", key[1]) in read)
                    reason = refusal(twin, number_, deed)
                    if not is_read:
                        alike += 1
                        self.same([reason, sets(twin, number_, deed), reads(twin, number_, deed)], [None, told, read])
                    elif reason is not None or sets(twin, number_, deed) != told:
                        unlike[deed[0], key[0]] = True
        self.assertGreater(alike, 3000)
        for pair in (("make", "name"), ("folder", "name"), ("write", "size"), ("write", "piece"), ("write", "name"),
                     ("cut", "size"), ("cut", "piece"), ("link", "name"), ("drop", "name"), ("move", "name"), ("all", "name")):
            self.assertIn(pair, unlike)


class Wrong(WrongCase):
    def test_wrong_arguments(self):
        deed = Arg(("make", ("n",)), lambda value: is_deed(value) and not is_bar(value), InvalidDeed,
                   WRONG_DEEDS + [("order",), ("snap", "a"), ("unsnap", "a"), ("back", "a")])
        for function in (reads, sets):
            self.wrong_calls(function, [tree_arg(SOME), number(8, 1, 10 ** 12), deed], lambda: SOME.facts)

    def test_refused(self):
        for function in (reads, sets):
            for deed, reason in ((("make", ("a",)), ("there", ("a",))), (("cut", ("x",), 0), ("gone", ("x",))),
                                 (("all", (("make", ("n",)), ("drop", ("a",)))), ("all", 1, ("full", ("a",))))):
                self.refuses(Refused, reason, lambda: function(SOME, 9, deed))
            self.refuses(InvalidTree, None, lambda: function(None, 0, ("make", ("a",))))
            self.refuses(InvalidNumber, 0, lambda: function(SOME, 0, ("make", ("a",))))

    def test_nothing_is_shared(self):
        told = sets(SOME, 9, ("make", ("n",)))
        told.clear()
        self.same(len(sets(SOME, 9, ("make", ("n",)))), 3)
