from itertools import combinations
from random import Random

from helpers import Arg, Case, WrongCase, anything, raised
from everycut.errors import InvalidOperation, Refused, TooMany
from everycut.keep import lots as lots_module
from everycut.keep import volumes
from everycut.keep.lots import cut_for, is_cut_for, least_lot, lot_number, lot_tree, lots_that_can_come
from everycut.keep.volumes import made, meaning, mount
from everycut.outside import pairs
from everycut.outside.disks import is_cut
from everycut.outside.pairs import fresh_pair
from everycut.plain.trees import Tree
from pair_helpers import lose_some
from volume_helpers import drawn_behind, drawn_cut, drawn_volume, lots_of, seeds, state_of_volume, volume_arg

EXAMPLES = '''
>>> V = made(fresh_pair(40), 4)
>>> V.do(("folder", ("a",)))
>>> V.do(("make", ("b",)))
>>> V.sync()
>>> V.do(("make", ("a", "c")))
>>> [lots_that_can_come(V), lot_number(V), lot_tree(V, (1, 2)).paths(), least_lot(V, (3,))]
[((1, 2), (1, 2, 3)), 2, (('a',), ('b',)), (1, 2, 3)]
>>> [is_cut_for(V, (1, 2), ({}, {})), is_cut_for(V, (1, 2, 3), ({}, {})), is_cut_for(V, (1, 2, 3), cut_for(V, (1, 2, 3)))]
[True, False, True]
>>> cut_for(V, (1,))
raises Refused(('synced', 2))
'''


def of_deeds(*deeds, size=60, log=8):
    volume = made(fresh_pair(size), log)
    for deed in deeds:
        if deed == "sync":
            volume.sync()
        else:
            volume.do(deed)
    return volume


class Lots(Case):
    def test_examples(self):
        self.examples(EXAMPLES, {**vars(lots_module), **vars(volumes), **vars(pairs)})

    def test_constants(self):
        self.same(lots_module.MAX_LOTS, 4096)

    def test_beside_all_lots(self):
        rng = Random(190)
        many = 0
        for _ in seeds(0, 40):
            volume, account = drawn_volume(rng, size=60, log=rng.choice((4, 8, 10)), many=rng.randrange(14), bars=rng.choice((0, 3)))
            state = state_of_volume(volume)
            lots = lots_of(volume, account.doings.start)
            self.same([lots_that_can_come(volume), lot_number(volume)], [tuple(sorted(lots)), len(lots)])
            many += len(lots) > 3
            for lot in rng.sample(sorted(lots), min(5, len(lots))):
                cut = cut_for(volume, lot)
                self.assertTrue(is_cut(volume.pair.one, cut[0]) and is_cut(volume.pair.other, cut[1]))
                self.same(is_cut_for(volume, lot, cut), True)
                behind = volume.pair.behind(cut[0], cut[1])
                lose_some(rng, behind, 8, range(volume.pair.size))
                self.assertEqual(meaning(behind), lots[lot])
                self.assertEqual(lot_tree(volume, lot), lots[lot])
                self.assertEqual(mount(behind).tree, lots[lot])
                for other in rng.sample(sorted(lots), min(4, len(lots))):
                    self.same(is_cut_for(volume, other, cut), lots[other] == lots[lot])
            self.assertEqual(state_of_volume(volume), state)
        self.assertGreater(many, 8)

    def test_beside_all_cuts(self):
        # All subsets of what can be left of each record: just the lots come, and each of them.
        for deeds in ([("make", ("a",)), ("folder", ("b",)), ("make", ("b", "c"))], [("make", ("a",)), ("order",), ("drop", ("a",))],
                      [("make", ("a",)), "sync", ("write", ("a",), 0, (5,)), ("write", ("a",), 0, (6, 7)), ("folder", ("b",))]):
            volume = of_deeds(*deeds)
            lots = lots_of(volume, Tree())
            places = sorted({at for at, _ in volume.pair.one.rows})
            seen = {}
            for size in range(len(places) + 1):
                for some in combinations(places, size):
                    for torn in [None] + places:
                        one = {(at, part): 0 for at in some for part in range(4) if not (at == torn and part == 2)}
                        other = {(at, 2): 0 for at in some if at != torn}
                        tree = meaning(volume.pair.behind(one, other))
                        fitting = [lot for lot in lots if lots[lot] == tree]
                        self.assertTrue(fitting)
                        for lot in fitting:
                            seen[lot] = True
                            self.same(is_cut_for(volume, lot, (one, other)), True)
                        for lot in lots:
                            if lot not in fitting:
                                self.same(is_cut_for(volume, lot, (one, other)), False)
            self.same(sorted(seen), sorted(lots))

    def test_equal_trees_of_other_records(self):
        # Behind the cut the order, or a cut that changes nothing, is taken; the tree is that of the lot without it.
        volume = of_deeds(("make", ("a",)), "sync", ("cut", ("a",), 0), ("order",), ("write", ("a",), 0, (1,)))
        self.same(lots_that_can_come(volume), ((1,), (1, 2), (1, 2, 3), (1, 2, 3, 4)))
        cut = cut_for(volume, (1, 2, 3))
        self.same([is_cut_for(volume, lot, cut) for lot in ((1,), (1, 2), (1, 2, 3), (1, 2, 3, 4))], [True, True, True, False])
        self.same([is_cut_for(volume, (1, 2), ({}, {})), is_cut_for(volume, (1, 2), cut_for(volume, (1,)))], [True, True])
        # A lot that lacks a synced number has no cut, but other lots can have its tree.
        self.same(is_cut_for(volume, (), ({}, {})), False)
        volume = of_deeds(("make", ("a",)), ("cut", ("a",), 0), "sync", ("order",))
        self.same([lots_that_can_come(volume), is_cut_for(volume, (1,), ({}, {})), lot_tree(volume, (1,)).paths()], [((1, 2), (1, 2, 3)), True, (("a",),)])
        self.refuses(Refused, ("synced", 2), lambda: cut_for(volume, (1,)))
        self.refuses(Refused, ("synced", 1), lambda: cut_for(volume, ()))

    def test_cuts_of_any_sectors(self):
        volume = of_deeds(("make", ("a",)), ("make", ("b",)))
        first, second = {(2, part): 0 for part in range(4)}, {(3, part): 0 for part in range(4)}
        for cut, lot in ((({}, first), (1,)), ((first, second), (1, 2)), (({**first, (3, 0): 0}, {(3, 1): 0}), (1,)), (({(2, 0): 0, (2, 3): 0}, {(2, 1): 0, (2, 2): 0}), (1,)),
                         (({(2, 0): 0}, {}), ()), ((second, {(2, 1): 0}), (2,))):
            self.same([is_cut_for(volume, there, cut) for there in ((), (1,), (2,), (1, 2))], [there == lot for there in ((), (1,), (2,), (1, 2))])
        for value in anything() + [(first,), (first, first, first), [first, second], (first, None), ({(2, 0): 1}, {}), ({(4, 0): 0}, {}), (first, {(24, 0): 0}), ({(2, 0): True}, {}),
                                   (first, {"a": 0})]:
            if not (isinstance(value, tuple) and value == ({}, {})):
                self.same(is_cut_for(volume, (), value), False)
                self.same(is_cut_for(volume, (1,), value), False)

    def test_more_lots_than_are_listed(self):
        names = "abcdefghijklmnopqrst"
        volume = made(fresh_pair(160), 40)
        for name in names[:12]:
            volume.do(("make", (name,)))
        self.same([lot_number(volume), len(lots_that_can_come(volume))], [4096, 4096])
        volume.do(("make", ("z",)))
        for call in (lots_that_can_come, lot_number):
            self.refuses(TooMany, 4096, lambda: call(volume))
        lot = (1, 3, 5, 13)
        self.same([is_cut_for(volume, lot, cut_for(volume, lot)), least_lot(volume, (2, 9)), lot_tree(volume, lot).paths()],
                  [True, (2, 9), (("a",), ("c",), ("e",), ("z",))])
        # What is synced is in all of them: of 34 deeds, each by itself, the last twelve can lack.
        volume = made(fresh_pair(200), 40)
        for at in range(34):
            if at == 22:
                volume.sync()
            volume.do(("folder", (names[at % 20] * (1 + at // 20),)))
        self.same([volume.turns, lot_number(volume)], [1, 4096])
        self.same(lots_that_can_come(volume)[0], tuple(range(1, 23)))
        volume.do(("order",))
        self.refuses(TooMany, 4096, lambda: lot_number(volume))
        volume.sync()
        self.same(lots_that_can_come(volume), (tuple(range(1, 36)),))

    def test_closed(self):
        rng = Random(191)
        for _ in seeds(0, 10):
            volume, _ = drawn_volume(rng, size=60, log=8, many=10, bars=1)
            lots = lots_that_can_come(volume)
            for one in lots[:20]:
                for other in lots[:20]:
                    self.assertIn(tuple(sorted(set(one) & set(other))), lots)
                    self.assertIn(tuple(sorted(set(one) | set(other))), lots)

    def test_least_lots(self):
        rng = Random(192)
        for _ in seeds(0, 25):
            volume, account = drawn_volume(rng, size=60, log=8, many=10, bars=1)
            lots = lots_of(volume, account.doings.start)
            numbers = sorted(volume.deeds)
            for _ in range(5):
                some = tuple(sorted(rng.sample(numbers, rng.randrange(len(numbers) + 1))))
                having = [lot for lot in lots if set(some) <= set(lot)]
                least = min(having, key=len)
                self.assertTrue(all(set(least) <= set(lot) for lot in having))
                self.same(least_lot(volume, some), least)
            self.same(least_lot(volume, tuple(numbers)), tuple(numbers))
            self.same(least_lot(volume, ()), min(lots, key=len))

    def test_what_comes_is_one_of_them(self):
        rng = Random(193)
        for _ in seeds(0, 20):
            volume, account = drawn_volume(rng, size=60, log=8, many=12)
            lots = lots_of(volume, account.doings.start)
            one, other = drawn_cut(rng, volume.pair.one), drawn_cut(rng, volume.pair.other)
            tree = meaning(volume.pair.behind(one, other))
            self.same([lot for lot in lots if is_cut_for(volume, lot, (one, other))], [lot for lot in lots if lots[lot] == tree])

    def test_behind_turns_and_mounts(self):
        volume = of_deeds(("make", ("a",)), ("make", ("b",)))
        volume.turn()
        self.same([lots_that_can_come(volume), lot_number(volume), least_lot(volume, ()), cut_for(volume, ())], [((),), 1, (), ({}, {})])
        volume = mount(drawn_behind(Random(194), volume.pair))
        volume.do(("drop", ("a",)))
        self.same([lots_that_can_come(volume), lot_tree(volume, ()).paths(), lot_tree(volume, (3,)).paths()], [((), (3,)), (("a",), ("b",)), (("b",),)])

    def test_a_pair_that_was_changed_from_outside(self):
        volume = of_deeds(("make", ("a",)))
        for disk in (volume.pair.one, volume.pair.other):
            disk.write(1, ((), (), (), ()))
        cut = {(1, part): 0 for part in range(4)}
        self.same([is_cut_for(volume, (), (cut, cut)), is_cut_for(volume, (1,), (cut, cut)), is_cut_for(volume, (), ({}, {}))], [False, False, True])


class Wrong(WrongCase):
    def test_wrong_arguments(self):
        volume = of_deeds(("folder", ("a",)), ("make", ("b",)), "sync", ("make", ("a", "c")), ("order",))
        state = lambda: state_of_volume(volume)
        right = [(), (1,), (2,), (1, 2), (1, 3), (1, 2, 3), (1, 2, 3, 4)]
        lot = Arg((1, 2), lambda value: type(value) is tuple and value in right and all(type(one) is int for one in value), InvalidOperation,
                  [(3,), (2, 3), (1, 2, 4), (2, 1), (1, 1), [1, 2], (1, 2, 5), {1: 2}, "12", (1.0,), ("1",), (0, 1), (1, 2, 3, 4, 5), (10 ** 59,)])
        volumes_arg = volume_arg(volume)
        for function in (lots_that_can_come, lot_number):
            self.wrong_calls(function, [volumes_arg], state)
        for function in (lot_tree, cut_for, lambda one, other: is_cut_for(one, other, None)):
            self.wrong_calls(function, [volumes_arg, lot], state)
        numbers = Arg((3,), lambda value: type(value) is tuple and list(value) == sorted(set(value)) and all(type(one) is int and 1 <= one <= 4 for one in value)
                      if type(value) is tuple and all(type(one) is int for one in value) else False, InvalidOperation,
                      [(2, 1), (1, 1), (5,), (0,), [1], (True,), ("1",), {1: 1}, (1, 2, 10 ** 59)])
        self.wrong_calls(least_lot, [volumes_arg, numbers], state)

    def test_nothing_is_shared(self):
        volume = of_deeds(("make", ("a",)))
        cut_for(volume, (1,))[0].clear()
        lot_tree(volume, (1,)).facts.clear()
        self.same([is_cut_for(volume, (1,), cut_for(volume, (1,))), len(lot_tree(volume, (1,)).facts)], [True, 3])
        self.assertIsNone(raised(lambda: hash(lots_that_can_come(volume))))
