from random import Random

from helpers import Case, WrongCase, anything
from everycut.keep import sends
from everycut.keep.sends import are_alike, difference, is_difference
from everycut.keep.volumes import made
from everycut.outside.pairs import fresh_pair
from everycut.plain import trees
from everycut.plain.coding import deed_cells
from everycut.plain.deeds import is_deed
from everycut.plain.reads import is_bar
from everycut.plain.trees import Tree, done, refusal
from plain_helpers import done_deeds, some_deed, tree_arg
from volume_helpers import full_model, seeds, small_tree

EXAMPLES = '''
>>> ONE = done(done(Tree(), 1, ("make", ("a",))), 2, ("write", ("a",), 0, (5, 6)))
>>> OTHER = done(done(ONE, 3, ("folder", ("b",))), 4, ("link", ("a",), ("b", "c")))
>>> [is_difference(ONE, OTHER, (("folder", ("b",)), ("link", ("a",), ("b", "c")))), is_difference(ONE, OTHER, difference(ONE, OTHER)), difference(ONE, ONE), are_alike(ONE, OTHER)]
[True, True, (), False]
>>> difference(ONE, None)
raises InvalidTree
'''

EIGHT = ("a", "b", "c", "d", "e", "f", "g", "h")


def slow_alike(one, other):
    """Whether two trees are alike, straight as [16.1] says."""
    if one.paths() != other.paths():
        return False
    for path in one.paths():
        nodes = one.node_at(path), other.node_at(path)
        kinds = one.kind_of(nodes[0]), other.kind_of(nodes[1])
        if kinds[0] != kinds[1] or kinds[0] == "file" and one.numbers_of(nodes[0]) != other.numbers_of(nodes[1]):
            return False
        for second in one.paths():
            if kinds[0] == "file" and (one.node_at(second) == nodes[0]) != (other.node_at(second) == nodes[1]):
                return False
    return True


def slow_behind(one, deeds, number):
    """The tree behind some deeds, with numbers from one on; None if one is refused."""
    for at, deed in enumerate(deeds):
        if refusal(one, number + at, deed) is not None:
            return None
        one = done(one, number + at, deed)
    return one


def first_number(tree):
    """A number above those of the tree's nodes."""
    return max([key[1] for key in tree.facts if key[0] == "kind"] + [0]) // 16 + 1


class Differences(Case):
    def test_examples(self):
        self.examples(EXAMPLES, {**vars(sends), **vars(trees)})

    def checked(self, one, other):
        deeds = difference(one, other)
        self.assertIs(type(deeds), tuple)
        for deed in deeds:
            self.assertTrue(is_deed(deed) and not is_bar(deed))
        for number in (first_number(one), first_number(one) + 77):
            behind = slow_behind(one, deeds, number)
            self.assertTrue(behind is not None and slow_alike(behind, other))
        self.same([is_difference(one, other, deeds), deeds == (), are_alike(one, other)], [True, slow_alike(one, other), slow_alike(one, other)])
        return deeds

    def test_trees_behind_drawn_deeds(self):
        rng = Random(200)
        for _ in seeds(0, 40):
            found, tree, _ = done_deeds(rng, rng.choice((3, 10, 40)), rng.choice(("ab", "abcd")), bars=1)
            one = found[rng.randrange(len(found))][2]
            stranger = done_deeds(rng, rng.choice((1, 10, 30)), "abc", bars=0)[1]
            for first, last in ((one, tree), (tree, one), (one, stranger), (stranger, tree), (Tree(), tree), (tree, Tree()), (tree, tree)):
                self.checked(first, last)

    def test_one_behind_the_other(self):
        rng = Random(201)
        for _ in seeds(0, 15):
            three = [done_deeds(rng, 12, "abc", bars=0)[1] for _ in range(3)]
            first, second = difference(three[0], three[1]), difference(three[1], three[2])
            self.same(is_difference(three[0], three[2], first + second), True)
            middle = slow_behind(three[0], first, first_number(three[0]))
            self.same(is_difference(three[0], three[2], first + difference(middle, three[2])), True)

    def test_other_numbers_of_nodes(self):
        one = small_tree(("make", ("a",)), ("folder", ("b",)), ("link", ("a",), ("b", "c")))
        other = done(done(done(done(Tree(), 9, ("folder", ("b",))), 12, ("make", ("b", "c"))), 13, ("link", ("b", "c"), ("a",))), 14, ("snap", "s"))
        self.same([are_alike(one, other), are_alike(other, one), one == other, difference(one, other), is_difference(one, other, ())], [True, True, False, (), True])
        # Equal paths and numbers, but two files.
        two = small_tree(("make", ("a",)), ("folder", ("b",)), ("make", ("b", "c")))
        self.same([are_alike(one, two), are_alike(two, one), is_difference(one, two, ())], [False, False, False])
        self.checked(one, two)
        self.checked(two, one)

    def test_kinds_that_change(self):
        file = small_tree(("make", ("a",)), ("write", ("a",), 0, (1, 2)), ("folder", ("b",)), ("link", ("a",), ("b", "x")))
        folder = small_tree(("folder", ("a",)), ("make", ("a", "b")), ("folder", ("a", "c")), ("make", ("b",)))
        self.checked(file, folder)
        self.checked(folder, file)
        moved = small_tree(("folder", ("x",)), ("folder", ("x", "a")), ("make", ("x", "a", "f")), ("write", ("x", "a", "f"), 0, (9,) * 20))
        behind = done(moved, 9, ("move", ("x", "a"), ("b",)))
        self.checked(moved, behind)
        self.checked(behind, moved)

    def test_links(self):
        one = small_tree(("make", ("a",)), ("make", ("b",)), ("make", ("c",)), ("link", ("a",), ("d",)), ("link", ("b",), ("e",)))
        other = small_tree(("make", ("a",)), ("link", ("a",), ("b",)), ("make", ("c",)), ("link", ("c",), ("d",)), ("link", ("c",), ("e",)))
        self.checked(one, other)
        self.checked(other, one)
        swapped = small_tree(("make", ("a",)), ("write", ("a",), 0, (1,)), ("make", ("b",)), ("write", ("b",), 0, (2,)), ("link", ("a",), ("d",)), ("link", ("b",), ("c",)))
        twin = small_tree(("make", ("a",)), ("write", ("a",), 0, (2,)), ("make", ("b",)), ("write", ("b",), 0, (1,)), ("link", ("a",), ("d",)), ("link", ("b",), ("c",)))
        self.checked(swapped, twin)

    def test_long_paths_and_files(self):
        deep = small_tree(*[("folder", EIGHT[:at]) for at in range(1, 8)], ("make", EIGHT), ("write", EIGHT, 64, (7,) * 32))
        self.same([len(deep.numbers_of(deep.node_at(EIGHT)))], [96])
        self.checked(Tree(), deep)
        self.checked(deep, Tree())
        rng = Random(202)
        for _ in seeds(0, 40):
            sizes = [rng.choice((0, 1, 5, 31, 32, 33, 64, 65, 95, 96)) for _ in range(2)]
            numbers = [tuple(rng.choice((0, 0, 1, 10 ** 9 - 1)) for _ in range(size)) for size in sizes]
            if rng.randrange(2):
                numbers[1] = numbers[0][:sizes[1]] + numbers[1][sizes[0]:]
            two = []
            for one in numbers:
                tree = small_tree(("make", ("a",)))
                for at in range(0, len(one), 32):
                    tree = done(tree, 5 + at, ("write", ("a",), at, one[at:at + 32]))
                self.same(tree.numbers_of(16), one)
                two.append(tree)
            deeds = self.checked(two[0], two[1])
            # Cuts and writes of just what is unlike.
            self.assertLessEqual(len(deeds), 4)
            self.assertTrue(all(deed[0] in ("cut", "write") for deed in deeds))

    def test_many_deeds(self):
        # More deeds than can be settled at once are put together, with so few cells that each fits into any log.
        one = small_tree(*[("make", (name,)) for name in "abcdefghijklmnopqrstuvwxyz"])
        for size in (1, 32, 96):
            tree = Tree()
            number = 0
            for name in "abcdefghijklmnopqrstuvwxyz":
                for deed in [("make", (name * 2,))] + [("write", (name * 2,), at, (7,) * min(32, size - at)) for at in range(0, size, 32)]:
                    number += 1
                    tree = done(tree, number, deed)
            for first, last in ((one, tree), (tree, one), (Tree(), tree)):
                deeds = self.checked(first, last)
                self.assertLessEqual(max(len(deed_cells(deed)) for deed in deeds), 191)
                self.assertLessEqual(len(deeds), 40)
        self.same([deed[0] for deed in difference(Tree(), one)], ["make"] * 26)

    def test_settled(self):
        rng = Random(203)
        for _ in seeds(0, 12):
            trees_there = [done_deeds(rng, rng.choice((1, 8)), "abc", bars=0)[1] for _ in range(3)]
            volume = made(fresh_pair(200), 4)
            for tree in trees_there:
                deeds = difference(volume.tree, tree)
                if deeds:
                    volume.settle(deeds)
                self.assertTrue(slow_alike(volume.tree, tree))
            volume = made(fresh_pair(200), 4)
            for deed in difference(volume.tree, trees_there[0]):
                volume.do(deed)
            self.assertTrue(slow_alike(volume.tree, trees_there[0]))

    def test_shots_are_left_out(self):
        one = small_tree(("make", ("a",)), ("snap", "s"))
        other = small_tree(("make", ("a",)))
        self.same([are_alike(one, other), difference(one, other), is_difference(one, other, ())], [True, (), True])
        behind = small_tree(("make", ("a",)), ("snap", "s"), ("drop", ("a",)))
        self.checked(behind, one)
        self.same(is_difference(behind, one, (("back", "s"),)), False)

    def test_near_ones(self):
        # A difference with a deed left out, doubled or changed is judged as a trial says.
        rng = Random(204)
        counts = {True: 0, False: 0}
        for _ in seeds(0, 25):
            found, tree, _ = done_deeds(rng, 12, "abc", bars=0)
            one = found[rng.randrange(len(found))][2]
            deeds = difference(one, tree)
            tuples = [deeds + deeds[-1:], deeds[1:], deeds[:-1], deeds[::-1], deeds + (("cut", ("a",), 96),), deeds + (("move", ("a",), ("a",)),)]
            tuples += [deeds[:at] + deeds[at + 1:] for at in range(len(deeds))]
            tuples += [deeds[:at] + (some_deed(rng, full_model(one), "abc", bars=0),) + deeds[at:] for at in range(len(deeds) + 1)]
            for some in tuples:
                behind = slow_behind(one, some, first_number(one))
                wanted = behind is not None and slow_alike(behind, tree)
                counts[wanted] += 1
                self.same(is_difference(one, tree, some), wanted)
        self.assertGreater(min(counts.values()), 30)

    def test_what_is_no_difference(self):
        one = small_tree(("make", ("a",)))
        other = small_tree(("make", ("a",)), ("folder", ("b",)))
        for wrong in anything() + [[("folder", ("b",))], (("folder", ("b",)), ("order",)), (("order",), ("folder", ("b",))), (("snap", "s"), ("folder", ("b",))),
                                   (("folder", ("b",)), None), (["folder", ("b",)],), (("folder", ("b",)), ("folder", ("b",))), (("drop", ("c",)), ("folder", ("b",))),
                                   ("folder", ("b",)), ("all", (("folder", ("b",)), ("folder", ("c",))))]:
            self.same(is_difference(one, other, wrong), False)
        self.same([is_difference(one, other, (("all", (("folder", ("b",)), ("folder", ("c",)))), ("drop", ("c",)))), is_difference(one, one, ())], [True, True])
        self.same(is_difference(one, other, (("folder", ("b",)), ("cut", ("a",), 5))), True)

    def test_great_numbers_of_nodes(self):
        most = 16 * 10 ** 12 + 15
        one = Tree.of_facts({("kind", most): "file", ("name", 0, "a"): most, ("size", most): 0, ("kind", 5): "folder", ("name", 0, "b"): 5})
        other = small_tree(("folder", ("a",)), ("make", ("b",)))
        self.same([is_difference(one, other, difference(one, other)), is_difference(other, one, difference(other, one)), is_difference(one, one, ())], [True] * 3)

    def test_not_true(self):
        one = small_tree(("make", ("a",)))
        self.same(is_difference(one, one, (("make", ("b",)), ("drop", ("b",)))), True)


class Wrong(WrongCase):
    def test_wrong_arguments(self):
        one = small_tree(("make", ("a",)))
        for function in (difference, lambda first, last: is_difference(first, last, None)):
            self.wrong_calls(function, [tree_arg(one), tree_arg(Tree())])
        self.wrong_calls(lambda tree: are_alike(tree, None), [tree_arg(one)])
        for value in anything() + [one.facts]:
            self.same(are_alike(one, value), False)
