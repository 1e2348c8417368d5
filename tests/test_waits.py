from itertools import combinations
from random import Random

from helpers import Arg, Case, WrongCase, anything, is_int, raised
from everycut.errors import InvalidDeed, InvalidNumber, InvalidOperation, InvalidTree, Refused, TooMany
from everycut.plain import reads as reads_module
from everycut.plain import trees, waits
from everycut.plain.reads import is_bar, sets
from everycut.plain.trees import Tree, done
from everycut.plain.waits import (
    MOST_DEEDS, MOST_LOTS, Doings, are_waits, greatest_within, is_lower, lower_lots, lower_of, tops)
from plain_helpers import deed_arg, done_deeds, slow_reads, slow_sets, tree_arg

EXAMPLES = '''
>>> D = Doings(Tree())
>>> [D.add(1, ("folder", ("a",))), D.add(2, ("make", ("a", "f"))), D.add(3, ("make", ("b",))), D.add(4, ("write", ("a", "f"), 0, (7,)))]
[(), (1,), (), (1, 2)]
>>> lower_lots(D.waits)
((), (1,), (1, 2), (1, 2, 3), (1, 2, 3, 4), (1, 2, 4), (1, 3), (3,))
>>> [lower_of(D.waits, (4,)), greatest_within(D.waits, (1, 3, 4)), tops(D.waits, (1, 2, 3)), is_lower(D.waits, (2, 3)), D.tree_of((1, 3)).paths()]
[(1, 2, 4), (1, 3), (2, 3), False, (('a',), ('b',))]
>>> [reads(Tree(), 1, ("make", ("a",))), sets(Tree(), 1, ("make", ("a",)))]
[(('name', 0, 'a'),), {('kind', 16): 'file', ('name', 0, 'a'): 16, ('size', 16): 0}]
>>> [D.add(5, ("order",)), D.add(6, ("drop", ("b",))), str(D)]
[(1, 2, 3, 4), (5,), '6 deeds']
>>> D.add(7, ("make", ("a",)))
raises Refused(('there', ('a',)))
'''


def slow_waits(found):
    """The waits of some (number, deed, tree ahead), straight as [9.2] says."""
    told = {}
    for at, (number_, deed, tree) in enumerate(found):
        ahead = found[:at]
        bars = [one[0] for one in ahead if is_bar(one[1])]
        behind = [one for one in ahead if not bars or one[0] > bars[-1]]
        waits_for = set(bars[-1:])
        if is_bar(deed):
            waits_for |= {one[0] for one in behind}
        else:
            written = {one[0]: slow_sets(one[2], one[0], one[1]) for one in behind}
            for key in slow_reads(tree, number_, deed):
                if key[0] == "names":
                    keys = {one for told_ in written.values() for one in told_ if one[0] == "name" and one[1] == key[1]}
                else:
                    keys = {key}
                for one in keys:
                    waits_for |= set([writer for writer in written if one in written[writer]][-1:])
        told[number_] = tuple(sorted(waits_for))
    return told


def subsets(numbers):
    for many in range(len(numbers) + 1):
        yield from combinations(numbers, many)


def slow_lots(waits_):
    return sorted(lot for lot in subsets(sorted(waits_)) if all(set(waits_[one]) <= set(lot) for one in lot))


def some_waits(rng, many, step=5):
    numbers = sorted(rng.sample(range(1, 30), many))
    waits_ = {}
    for one in numbers:
        ahead = [other for other in numbers if other < one]
        waits_[one] = tuple(sorted(rng.sample(ahead, min(len(ahead), rng.choice((0, 0, 1, 1, 2, 3))))))
    rng.shuffle(numbers)
    return {one: waits_[one] for one in numbers}


def doings_of(*deeds, tree=None):
    doings = Doings(tree or Tree())
    for at, deed in enumerate(deeds):
        doings.add(at + 1, deed)
    return doings


class Waits(Case):
    def test_examples(self):
        self.examples(EXAMPLES, {**vars(trees), **vars(reads_module), **vars(waits)})

    def test_constants(self):
        self.same([MOST_DEEDS, MOST_LOTS, reads_module.MOST_DEEDS, reads_module.MOST_LOTS], [40, 4096] * 2)

    def waited(self, deeds, wanted):
        self.same(list(doings_of(*deeds).waits.values()), wanted)

    def test_last_writers(self):
        self.waited([("folder", ("a",)), ("make", ("f",)), ("write", ("f",), 0, (1,) * 8), ("write", ("f",), 0, (2,) * 8),
                     ("write", ("f",), 3, (3,)), ("cut", ("f",), 4), ("write", ("f",), 8, (1,) * 8), ("cut", ("f",), 20)],
                    [(), (), (2,), (2, 3), (2, 3, 4), (2, 3, 5), (2, 6), (2, 7)])
        self.waited([("make", ("f",)), ("link", ("f",), ("g",)), ("drop", ("f",)), ("write", ("g",), 0, (1,)), ("make", ("f",)),
                     ("drop", ("f",)), ("make", ("f",))],
                    [(), (1,), (1,), (1, 2), (3,), (5,), (6,)])

    def test_folders(self):
        # The names of a folder are waited for, also where there is no entry any more.
        self.waited([("folder", ("a",)), ("make", ("a", "f")), ("make", ("a", "g")), ("drop", ("a", "f")),
                     ("move", ("a", "g"), ("g",)), ("drop", ("a",)), ("folder", ("a",))],
                    [(), (1,), (1,), (1, 2), (1, 3), (1, 4, 5), (6,)])
        self.waited([("folder", ("a",)), ("folder", ("a", "b")), ("make", ("a", "b", "f")), ("make", ("e",)),
                     ("move", ("a",), ("c",)), ("make", ("c", "b", "g"))],
                    [(), (1,), (1, 2), (), (1, 2, 3), (2, 5)])
        self.waited([("folder", ("a",)), ("folder", ("b",)), ("make", ("b", "f")), ("move", ("b", "f"), ("a", "f")),
                     ("drop", ("b",)), ("make", ("a", "h"))],
                    [(), (), (2,), (1, 2, 3), (2, 4), (1,)])

    def test_bars(self):
        self.waited([("order",), ("make", ("a",)), ("make", ("b",)), ("snap", "s"), ("drop", ("a",)), ("back", "s"), ("order",),
                     ("unsnap", "s"), ("cut", ("a",), 0), ("drop", ("b",)), ("order",)],
                    [(), (1,), (1,), (1, 2, 3), (4,), (4, 5), (6,), (7,), (8,), (8,), (8, 9, 10)])
        self.waited([("make", ("a",)), ("order",)], [(), (1,)])
        self.waited([("order",)] * 4, [(), (1,), (2,), (3,)])

    def test_deeds_that_write_one_key_twice(self):
        both = ("all", (("make", ("f",)), ("write", ("f",), 0, (1,)), ("write", ("f",), 0, (2,))))
        self.waited([both, ("write", ("f",), 1, (3,)), ("all", (("cut", ("f",), 0), ("write", ("f",), 0, (4,)))),
                     ("cut", ("f",), 0)], [(), (1,), (1, 2), (1, 3)])
        self.waited([("make", ("f",)), ("all", (("drop", ("f",)), ("make", ("f",)))), ("write", ("f",), 0, (4,))],
                    [(), (1,), (2,)])

    def test_a_tree_that_is_not_empty(self):
        tree = done(done(Tree(), 5, ("make", ("f",))), 6, ("snap", "s"))
        doings = Doings(tree)
        self.same([doings.add(7, ("write", ("f",), 0, (1,))), doings.add(8, ("make", ("g",))), doings.add(10, ("back", "s"))],
                  [(), (), (7, 8)])
        self.same([doings.start == tree, doings.tree == done(tree, 11, ("order",)), doings.tree_of((8,)).paths()],
                  [True, True, (("f",), ("g",))])

    def test_straight_from_the_words(self):
        rng = Random(93)
        for round_ in range(40):
            found, tree, _ = done_deeds(rng, 40, "abc", bars=round_ % 4)
            doings = Doings(Tree())
            wanted = slow_waits(found)
            for number_, deed, _ in found:
                self.same(doings.add(number_, deed), wanted[number_])
            self.same([doings.waits, doings.deeds], [wanted, {one[0]: one[1] for one in found}])
            self.same([doings.tree == tree, len(doings), str(doings)], [True, 40, "40 deeds"])


class Lots(Case):
    def read_values(self, tree, keys):
        facts = tree.facts
        return [tuple(one for one in facts.items() if one[0][:2] == ("name", key[1])) if key[0] == "names" else facts.get(key)
                for key in keys]

    def test_a_tree_for_each_lot(self):
        rng = Random(94)
        lots, unlike = 0, 0
        for round_ in range(60):
            found, tree, _ = done_deeds(rng, rng.choice((6, 9, 12)), "ab", bars=round_ % 3)
            doings = doings_of()
            for number_, deed, _ in found:
                doings.add(number_, deed)
            there = {number_: (deed, ahead) for number_, deed, ahead in found}
            some = lower_lots(doings.waits)
            for lot in rng.sample(some, min(len(some), 25)):
                lots += 1
                behind = Tree()
                base = Tree()
                values = {}
                for one in lot:
                    deed, ahead = there[one]
                    if is_bar(deed):
                        # Ahead of a bar of a lower lot all deeds are there.
                        self.assertTrue(behind == ahead)
                        behind = base = done(behind, one, deed)
                        values = {}
                        continue
                    keys = slow_reads(ahead, one, deed)
                    self.same(self.read_values(behind, keys), self.read_values(ahead, keys))
                    self.same(sets(behind, one, deed), sets(ahead, one, deed))
                    values.update(sets(ahead, one, deed))
                    behind = done(behind, one, deed)
                self.assertTrue(doings.tree_of(lot) == behind)
                self.same(doings.tree_of(lot).weight, behind.weight)
                facts = {key: value for key, value in {**base.facts, **values}.items() if value is not None}
                entered = [node for key, node in facts.items() if key[0] == "name"]
                facts = {key: facts[key] for key in sorted(facts) if key[0] == "name" or key[1] in entered}
                self.same(behind.facts, facts)
                unlike += behind != tree
            self.same(doings.tree_of(tuple(doings.deeds)) == tree, True)
        self.assertGreater(lots, 500)
        self.assertGreater(unlike, 300)

    def test_not_true(self):
        # Neither waits for the other; the second one alone first would be another tree, but it is not refused.
        doings = doings_of(("make", ("f",)), ("write", ("f",), 0, (1,) * 8), ("write", ("f",), 0, (2,) * 8))
        self.same(doings.waits[3], (1, 2))
        doings = doings_of(("make", ("f",)), ("make", ("g",)), ("move", ("f",), ("g",)), ("drop", ("g",)))
        self.refuses(InvalidOperation, None, lambda: doings.tree_of((1, 2, 4)))
        self.same(doings.tree_of((1, 2)).paths(), (("f",), ("g",)))

    def test_tree_of(self):
        doings = doings_of(("folder", ("a",)), ("make", ("a", "f")), ("make", ("b",)))
        self.same([doings.tree_of(lot).paths() for lot in ((), (1,), (3,), (1, 3), (1, 2, 3))],
                  [(), (("a",),), (("b",),), (("a",), ("b",)), (("a",), ("a", "f"), ("b",))])
        for wrong in anything() + [(2,), (2, 3), (3, 1), (1, 1), (4,), (1, 4), [1], {1: 2}, (True,), (0,), ("1",), ((1,),), 1]:
            if wrong not in [(), (1,), (1, 2, 3)] or type(wrong[:1] and wrong[0]) is bool:
                self.refuses(InvalidOperation, None, lambda: doings.tree_of(wrong))

    def test_functions_of_lots(self):
        rng = Random(95)
        for _ in range(150):
            waits_ = some_waits(rng, rng.randrange(9))
            lots = slow_lots(waits_)
            self.same(lower_lots(waits_), tuple(lots))
            for numbers in rng.sample(list(subsets(sorted(waits_))), min(20, 2 ** len(waits_))):
                self.assertIs(is_lower(waits_, numbers), numbers in lots)
                above = [lot for lot in lots if set(lot) >= set(numbers)]
                inside = [lot for lot in lots if set(lot) <= set(numbers)]
                self.same(lower_of(waits_, numbers), min(above, key=len))
                self.same(greatest_within(waits_, numbers), max(inside, key=len))
                self.assertTrue(all(set(lot) >= set(min(above, key=len)) for lot in above))
                self.assertTrue(all(set(lot) <= set(max(inside, key=len)) for lot in inside))
                told = tuple(one for one in numbers if not any(one in waits_[other] for other in numbers))
                self.same(tops(waits_, numbers), told)
            for lot in rng.sample(lots, min(6, len(lots))):
                self.same(lower_of(waits_, tops(waits_, lot)), lot)
                for other in lots:
                    self.assertIn(tuple(sorted(set(lot) & set(other))), lots)
                    self.assertIn(tuple(sorted(set(lot) | set(other))), lots)

    def test_waits_that_go_through_others(self):
        waits_ = {1: (), 2: (1,), 3: (2,)}
        self.same([tops(waits_, (1, 3)), lower_of(waits_, (3,)), greatest_within(waits_, (1, 3)), is_lower(waits_, (1, 3))],
                  [(1, 3), (1, 2, 3), (1,), False])
        self.same([tops(waits_, ()), lower_of(waits_, ()), greatest_within(waits_, ()), lower_lots({})], [(), (), (), ((),)])

    def test_how_many_lots(self):
        free = {one: () for one in range(1, 13)}
        lots = lower_lots(free)
        self.same([len(lots), lots[:3], lots[-1]], [4096, ((), (1,), (1, 2)), (12,)])
        self.same(lots, tuple(slow_lots(free)))
        self.refuses(TooMany, 4096, lambda: lower_lots({**free, 13: ()}))
        self.refuses(TooMany, 4096, lambda: lower_lots({**free, 13: tuple(range(1, 13))}))
        self.refuses(TooMany, 4096, lambda: lower_lots({one: () for one in range(1, 41)}))
        chain = {one: tuple(range(1, one)) for one in range(1, 41)}
        self.same(len(lower_lots(chain)), 41)
        last = {one: () if one < 12 else tuple(range(1, one)) for one in range(1, 41)}
        self.same(len(lower_lots(last)), 2048 + 29)

    def test_forty_deeds(self):
        doings = doings_of(*[("order",)] * 40)
        before = (doings.deeds, doings.waits, len(doings))
        self.refuses(TooMany, 40, lambda: doings.add(41, ("order",)))
        self.refuses(TooMany, 40, lambda: doings.add(41, ("drop", ("x",))))
        self.refuses(InvalidNumber, 40, lambda: doings.add(40, ("drop", ("x",))))
        self.refuses(InvalidDeed, None, lambda: doings.add(41, None))
        self.same((doings.deeds, doings.waits, len(doings)), before)


class Kinds(Case):
    def test_waits_and_lots_are_judged(self):
        for good in ({}, {1: ()}, {5: (), 7: (5,)}, {7: (5,), 5: ()}, {10 ** 12: (1,), 1: ()}, {one: () for one in range(1, 41)}):
            self.assertIs(are_waits(good), True, good)
        wrong = anything() + [{1: (1,)}, {1: (2,), 2: ()}, {2: (1,)}, {3: (2, 1), 1: (), 2: ()}, {3: (1, 1), 1: ()}, {1: []},
                              {True: ()}, {2: (True,), 1: ()}, {0: ()}, {10 ** 12 + 1: ()}, {"1": ()}, {1: None}, {1: ((),)},
                              {one: () for one in range(1, 42)}, [(1, ())], {(1,): ()}, {2: ([],), 1: ()}, {2: ("1",), 1: ()}]
        for value in wrong:
            self.assertIs(are_waits(value), value == {} and type(value) is dict, value)
        waits_ = {1: (), 2: (1,), 4: ()}
        lots = [(), (1,), (1, 2), (1, 2, 4), (1, 4), (4,)]
        for value in anything() + lots + [(2,), (2, 4), (3,), (4, 1), (1, 1), [1], (True,), ("1",), ((1,),), ([],), {1: 2}, 4]:
            self.assertIs(is_lower(waits_, value), value in lots and not (value and value[0] is True), value)

    def test_doings(self):
        doings = doings_of(("make", ("a",)), ("make", ("b",)))
        before = (doings.deeds, doings.waits, doings.tree.facts)
        self.refuses(Refused, ("there", ("a",)), lambda: doings.add(3, ("make", ("a",))))
        self.refuses(Refused, ("snapshot", "a"), lambda: doings.add(3, ("back", "a")))
        self.same((doings.deeds, doings.waits, doings.tree.facts), before)
        doings.deeds.clear()
        doings.waits.clear()
        self.same((doings.deeds, doings.waits, doings.tree.facts), before)
        self.same(doings.add(10 ** 12, ("drop", ("a",))), (1,))
        for at in (10 ** 12, 10 ** 12 + 1, 2, 1):
            self.refuses(InvalidNumber, at, lambda: doings.add(at, ("order",)))
        self.same([str(doings_of()), len(doings_of()), str(doings)], ["0 deeds", 0, "3 deeds"])
        self.assertIsInstance(raised(lambda: iter(doings)), TypeError)
        for at in (0, True, 10 ** 12 + 1, -1, None):
            self.refuses(InvalidNumber, at, lambda: doings_of().add(at, ("order",)))
        full = doings_of(*[("snap", name) for name in "abcdef"])
        self.refuses(Refused, ("room",), lambda: full.add(7, ("snap", "g")))


class Wrong(WrongCase):
    def test_doings(self):
        self.wrong_calls(Doings, [tree_arg(Tree())])
        doings = doings_of(("make", ("a",)))
        at = Arg(2, lambda value: is_int(value, 2, 10 ** 12), InvalidNumber, [1, 0, 10 ** 12 + 1, "2", (2,)])
        self.wrong_calls(doings.add, [at, deed_arg(("order",))], lambda: (doings.deeds, doings.waits))

    def test_functions_of_lots(self):
        waits_ = {1: (), 2: (1,), 4: ()}
        first = Arg(waits_, are_waits, InvalidOperation, [{2: (1,)}, {1: [1]}, {1: (1,)}, {one: () for one in range(1, 42)}])
        numbers = Arg((1, 4), lambda value: type(value) is tuple and value in [(), (1,), (1, 2), (4,)] and value[:1] != (True,)
                      or type(value) is tuple and value == (1,) and type(value[0]) is int,
                      InvalidOperation, [(3,), (4, 1), (1, 1), [1], (True,), ((1,),), ([],), 4, {1: 2}])
        for function in (lower_of, greatest_within, tops):
            self.wrong_calls(function, [first, numbers], lambda: str(waits_))
        self.wrong_calls(lower_lots, [first])
        self.wrong_calls(lambda value: is_lower(value, (1,)), [first])

    def test_trees(self):
        self.refuses(InvalidTree, None, lambda: Doings({}))
