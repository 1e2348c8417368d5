from itertools import chain, combinations, product
from random import Random

from helpers import Arg, Case, WrongCase, anything, is_int, number, raised
from everycut.errors import InvalidCut, InvalidOperation, InvalidPicture, Refused
from everycut.plans import scripts
from everycut.plans.scripts import (
    break_of, is_break, keeps, least_gaps, meaning_of, needless_gaps, picture_of, pictures_at, small_turn, versions_at)
from volume_helpers import seeds

EXAMPLES = '''
>>> WRITES = ((1, 1), (0, 1))
>>> RULES, PROMISE = (((0, None), "old"), ((1, 1), "new")), (("old",), ("old",), ("new", "old"))
>>> [versions_at((0, 0), WRITES, (), 2), pictures_at((0, 0), WRITES, (1,), 2), picture_of((0, 0), WRITES, (), 2, (1, 0)), meaning_of((1, 0), RULES)]
[((0, 1), (0, 1)), ((0, 1), (1, 1)), (1, 0), None]
>>> [keeps((0, 0), WRITES, (1,), RULES, PROMISE), is_break((0, 0), WRITES, (), RULES, PROMISE, (2, (1, 0))), is_break((0, 0), WRITES, (), RULES, PROMISE, (2, (1, 1))), least_gaps((0, 0), WRITES, RULES, PROMISE)]
[True, True, False, ((1,),)]
>>> FAR = ((1, 1), (2, 0), (0, 1))
>>> LONG, SOFT = (((0, None, None), "old"), ((1, 1, None), "new")), (("old",), ("old",), ("old",), ("new", "old"))
>>> [least_gaps((0, 0, 0), FAR, LONG, SOFT), needless_gaps((0, 0, 0), FAR, (1, 2), LONG, SOFT), needless_gaps((0, 0, 0), FAR, (1, 3), LONG, SOFT)]
[((1,), (2,)), (1, 2), (3,)]
>>> START, TURN, TOLD, SURE = small_turn(2)
>>> [TURN, least_gaps(START, TURN, TOLD, SURE), small_turn(2, synced=True)[3][2], break_of(START, TURN, (3, 4), TOLD, SURE)]
[((2, 1), (3, 1), (4, 1), (1, 2), (2, 2)), ((3, 4),), ('b',), None]
>>> needless_gaps((0, 0), WRITES, (), RULES, PROMISE)
raises Refused(('break',))
'''


def slow_versions(picture, writes, gaps, moment):
    """The versions at a moment, from a run of all writes and flushes ahead of it."""
    settled, rows = list(picture), [[] for _ in picture]
    for at in range(moment):
        if at in gaps:
            settled = [(row or [there])[-1] for row, there in zip(rows, settled)]
            rows = [[] for _ in picture]
        cell, figure = writes[at]
        rows[cell].append(figure)
    return tuple((there, *row) for there, row in zip(settled, rows))


def slow_meaning(picture, rules):
    for pattern, name in rules:
        if all(wanted is None or wanted == there for wanted, there in zip(pattern, picture)):
            return name
    return None


def slow_breaks(picture, writes, gaps, rules, promise):
    """All breaks."""
    found = []
    for moment in range(len(writes) + 1):
        versions = slow_versions(picture, writes, gaps, moment)
        for cut in product(*[range(len(there)) for there in versions]):
            left = tuple(there[index] for there, index in zip(versions, cut))
            if slow_meaning(left, rules) not in promise[moment]:
                found.append((moment, cut))
    return found


def all_gaps(many):
    return list(chain(*[combinations(range(1, many + 1), size) for size in range(many + 1)]))


def drawn(rng, cells=3, many=4):
    picture = tuple(rng.randrange(3) for _ in range(rng.randrange(1, cells + 1)))
    writes = tuple((rng.randrange(len(picture)), rng.randrange(3)) for _ in range(rng.randrange(many + 1)))
    rules = tuple((tuple(rng.choice((None, None, 0, 1, 2)) for _ in picture), rng.choice("abc")) for _ in range(rng.randrange(1, 6)))
    # Promises that some gaps keep: what can come with all of them, and more at times.
    every = tuple(range(1, len(writes) + 1))
    promise = []
    for moment in range(len(writes) + 1):
        come = {slow_meaning(left, rules) for left in product(*slow_versions(picture, writes, every, moment))}
        names = {name for name in come if name is not None} | set(rng.sample("abc", rng.choice((0, 0, 1, 2))))
        promise.append(tuple(sorted(names)) if rng.randrange(12) else ())
    return picture, writes, rules, tuple(promise)


class Plans(Case):
    def test_examples(self):
        self.examples(EXAMPLES, dict(vars(scripts)))

    def test_constants(self):
        self.same([scripts.MAX_CELLS, scripts.MAX_WRITES, scripts.MAX_RULES], [6, 8, 24])

    def test_versions_and_pictures(self):
        rng = Random(230)
        for _ in seeds(0, 80):
            picture, writes, rules, _ = drawn(rng, 6, 8)
            gaps = rng.choice(all_gaps(len(writes)))
            for moment in range(len(writes) + 1):
                versions = slow_versions(picture, writes, gaps, moment)
                self.same(versions_at(picture, writes, gaps, moment), versions)
                come = tuple(sorted(set(product(*versions))))
                self.same(pictures_at(picture, writes, gaps, moment), come)
                for cut in list(product(*[range(len(there)) for there in versions]))[:40]:
                    left = tuple(there[index] for there, index in zip(versions, cut))
                    self.same(picture_of(picture, writes, gaps, moment, cut), left)
                    self.same(meaning_of(left, rules), slow_meaning(left, rules))
                for wrong in [tuple(len(there) for there in versions), (0,) * (len(picture) + 1), [0] * len(picture), (-1,) * len(picture), (True,) * len(picture), None]:
                    self.refuses(InvalidCut, None, lambda: picture_of(picture, writes, gaps, moment, wrong))

    def test_a_gap_is_ahead_of_its_flush(self):
        self.same([versions_at((0,), ((0, 1), (0, 2)), (1,), moment) for moment in (0, 1, 2)], [((0,),), ((0, 1),), ((1, 2),)])
        self.same([versions_at((0,), ((0, 1), (0, 2)), (1, 2), moment) for moment in (0, 1, 2)], [((0,),), ((0, 1),), ((1, 2),)])
        # Equal versions are told each by itself, pictures once.
        self.same([versions_at((1,), ((0, 1), (0, 1)), (), 2), pictures_at((1,), ((0, 1), (0, 1)), (), 2)], [((1, 1, 1),), ((1,),)])

    def test_promises(self):
        rng = Random(231)
        counts = {True: 0, False: 0}
        for _ in seeds(0, 120):
            picture, writes, rules, promise = drawn(rng)
            kept = []
            for gaps in all_gaps(len(writes)):
                breaks = slow_breaks(picture, writes, gaps, rules, promise)
                counts[not breaks] += 1
                self.same(keeps(picture, writes, gaps, rules, promise), not breaks)
                found = break_of(picture, writes, gaps, rules, promise)
                self.same(found is None, not breaks)
                if breaks:
                    self.assertIn(found, breaks)
                    self.refuses(Refused, ("break",), lambda: needless_gaps(picture, writes, gaps, rules, promise))
                else:
                    kept.append(gaps)
                moment = rng.randrange(len(writes) + 1)
                versions = slow_versions(picture, writes, gaps, moment)
                for cut in product(*[range(len(there) + 1) for there in versions]):
                    self.same(is_break(picture, writes, gaps, rules, promise, (moment, cut)), (moment, cut) in breaks)
            least = [gaps for gaps in kept if not any(set(fewer) < set(gaps) for fewer in kept)]
            self.same(least_gaps(picture, writes, rules, promise), tuple(least))
            for gaps in kept:
                needless = tuple(gap for gap in gaps if tuple(one for one in gaps if one != gap) in kept)
                self.same(needless_gaps(picture, writes, gaps, rules, promise), needless)
                self.same(needless == (), gaps in least)
            if kept:
                self.assertIn(tuple(range(1, len(writes) + 1)), kept)
        self.assertGreater(min(counts.values()), 200)

    def test_more_gaps(self):
        # With more gaps no further picture can come, and what keeps a promise goes on keeping it.
        rng = Random(232)
        for _ in seeds(0, 40):
            picture, writes, rules, promise = drawn(rng, 4, 6)
            more = rng.choice(all_gaps(len(writes)))
            fewer = tuple(gap for gap in more if rng.randrange(2))
            for moment in range(len(writes) + 1):
                self.assertTrue(set(pictures_at(picture, writes, more, moment)) <= set(pictures_at(picture, writes, fewer, moment)))
            if keeps(picture, writes, fewer, rules, promise):
                self.same(keeps(picture, writes, more, rules, promise), True)

    def test_bounds(self):
        six = (0, 1, 2, 3, 4, 9)
        writes = tuple((at % 6, 9 - at) for at in range(8))
        rules = tuple(((None,) * 5 + (at % 10,), "zzzzzzzz") for at in range(24))
        promise = (("zzzzzzzz",),) * 9
        self.same([keeps(six, writes, (), rules, promise), least_gaps(six, writes, rules, promise), meaning_of(six, rules)], [True, ((),), "zzzzzzzz"])
        self.same(len(pictures_at(six, writes, (), 8)), 3 * 3 * 2 ** 4)
        strict = (("zzzzzzzz",),) * 8 + ((),)
        self.same([least_gaps(six, writes, rules, strict), keeps(six, writes, tuple(range(1, 9)), rules, strict)], [(), False])
        self.same(break_of(six, writes, tuple(range(1, 9)), rules, strict)[0], 8)
        self.same([keeps((0,), (), (), ((((None,)), "a"),), (("a",),)), least_gaps((0,), (), (((None,), "a"),), (("a",),)), least_gaps((0,), (), (), (("a",),))], [True, ((),), ()])
        # Many gaps are needed: each cell has to be settled ahead of the next one.
        chain_rules = tuple(((1,) * at + (0,) * (6 - at), "abcdefg"[at]) for at in range(7))
        row = tuple((at, 1) for at in range(6))
        names = (("a",),) + tuple(tuple("abcdefg"[at:at + 2]) for at in range(6))
        self.same(least_gaps((0,) * 6, row, chain_rules, names), ((1, 2, 3, 4, 5),))

    def test_no_gaps_keep_it(self):
        self.same([least_gaps((0,), ((0, 1),), (((0,), "a"),), (("a",), ("a",))), break_of((0,), ((0, 1),), (1,), (((0,), "a"),), (("a",), ("a",)))], [(), (1, (1,))])
        # What has no meaning is never among the names.
        self.same(keeps((0,), (), (), (), (("a", "b"),)), False)
        self.same(is_break((0,), (), (), (), (("a",),), (0, (0,))), True)

    def test_small_turns(self):
        for many in (1, 2, 3):
            for synced in (False, True):
                picture, writes, rules, promise = small_turn(many, synced=synced)
                self.same(picture, (1,) + (0,) * (many + 2))
                self.same(writes, ((2, 1),) + tuple((at, 1) for at in range(3, 3 + many)) + ((1, 2), (2, 2)))
                self.same([len(rules), len(promise)], [4, len(writes) + 1])
                amid = ("b",) if synced else ("a", "b")
                self.same(promise, (("a",), ("a", "b")) + (amid,) * many + (("b",), ("b", "c")))
                needed = (1,) * synced + (many + 1, many + 2)
                self.same(least_gaps(picture, writes, rules, promise), (needed,))
                self.same([keeps(picture, writes, needed, rules, promise), needless_gaps(picture, writes, needed, rules, promise)], [True, ()])
                # Each flush is needed [0.21]: without it there is a break.
                for gap in needed:
                    gaps = tuple(one for one in needed if one != gap)
                    found = break_of(picture, writes, gaps, rules, promise)
                    self.same(is_break(picture, writes, gaps, rules, promise, found), True)
                    self.same(is_break(picture, writes, needed, rules, promise, found), False)
                every = tuple(range(1, len(writes) + 1))
                self.same(needless_gaps(picture, writes, every, rules, promise), tuple(gap for gap in every if gap not in needed))
                for small in product((0, 1, 2), repeat=len(picture)):
                    wanted = None
                    if small[1] == 2 and small[3:] == (1,) * many:
                        wanted = "c" if small[2] == 2 else "b"
                    elif small[1] == 0:
                        wanted = "b" if small[2] == 1 else "a"
                    self.same(meaning_of(small, rules), wanted)
        self.same(small_turn(1), small_turn(1, synced=False))

    def test_not_true(self):
        far = ((1, 1), (2, 0), (0, 1))
        long, soft = (((0, None, None), "old"), ((1, 1, None), "new")), (("old",), ("old",), ("old",), ("new", "old"))
        self.same([needless_gaps((0, 0, 0), far, (1, 2), long, soft), keeps((0, 0, 0), far, (), long, soft)], [(1, 2), False])
        self.same([is_break((0, 0, 0), far, (), long, soft, (3, (1, 0, 0))), is_break((0, 0, 0), far, (1,), long, soft, (3, (1, 0, 0)))], [True, False])


def tuple_of(value, is_one, most, least=0):
    return type(value) is tuple and least <= len(value) <= most and all(map(is_one, value))


def ascends(value):
    return list(value) == sorted(set(value))


class Wrong(WrongCase):
    def setUp(self):
        self.picture = Arg((0, 1), lambda value: tuple_of(value, lambda one: is_int(one, 0, 9), 6, 1), InvalidPicture,
                           [(), (0,) * 7, (10,), (-1,), [0, 1], (0, "1"), (None, 1)])
        pair = lambda value: type(value) is tuple and len(value) == 2
        self.writes = Arg(((1, 1), (0, 1)), lambda value: tuple_of(value, lambda one: pair(one) and is_int(one[0], 0, 1) and is_int(one[1], 0, 9), 8), InvalidOperation,
                          [((2, 1),), ((0, 10),), ((0, 1),) * 9, [(0, 1)], ((0, 1, 1),), ([0, 1],), ((True, 1),), ((0, None),), ((-1, 1),)])
        self.gaps = Arg((1,), lambda value: tuple_of(value, lambda one: is_int(one, 1, 2), 2) and ascends(value), InvalidOperation, [(0,), (3,), (2, 1), (1, 1), [1], (True,), ("1",), {1: 1}])
        self.rules = Arg((((0, None), "old"),), lambda value: tuple_of(value, lambda one: False, 24), InvalidOperation,
                         [(((0,), "old"),), (((0, None, None), "old"),), (((0, 10), "old"),), (((0, None), "Old"),), (((0, None), None),), (((0, None), "a", "b"),), ([(0, None), "a"],),
                          (((0, None), "a"),) * 25, [((0, None), "a")], (((0, True), "a"),), ((None, "a"),), ((([0, 1]), "a"),)])
        names = lambda value: tuple_of(value, lambda one: type(one) is str and one.isalpha() and one.isascii() and one.islower() and len(one) <= 8, 99) and ascends(value)
        self.promise = Arg((("old",), ("old",), ("new", "old")), lambda value: tuple_of(value, names, 3, 3), InvalidOperation,
                           [(("old",),) * 2, (("old",),) * 4, (("old",), ("old",), ("old", "new")), (("old",), ("old",), ["old"]), (("old",), ("old",), "old"), [("old",)] * 3, (("old",), ("old",), (None,)),
                            (("old",), ("old",), ("old", "old")), (("OLD",), (), ())])
        self.moment = number(1, 0, 2)

    def test_wrong_arguments(self):
        plans = [self.picture, self.writes, self.gaps, self.rules, self.promise]
        told = [self.picture, self.writes, self.gaps, self.moment]
        for function in (versions_at, pictures_at, lambda *args: picture_of(*args, (0, 0))):
            self.wrong_calls(function, told)
        for function in (keeps, break_of, lambda *args: is_break(*args, None), needless_gaps):
            self.wrong_calls(function, plans)
        self.wrong_calls(least_gaps, [self.picture, self.writes, self.rules, self.promise])
        self.wrong_calls(meaning_of, [self.picture, self.rules])
        self.wrong_calls(small_turn, [number(2, 1, 3)])
        for value in anything():
            if value is not True and value is not False:
                self.refuses(InvalidOperation, None, lambda: small_turn(2, synced=value))
        self.assertEqual(raised(lambda: small_turn(0, synced=None)).given, 0)

    def test_breaks_of_any_value(self):
        for value in anything() + [(0,), (0, (0, 0), 0), [2, (1, 0)], (2, [1, 0]), (3, (0, 0)), (-1, (0, 0)), (2, (2, 0)), (2, (1,)), (2, (1, 0, 0)), (True, (0, 0)), (2, (True, False))]:
            self.same(is_break((0, 0), ((1, 1), (0, 1)), (), (((0, None), "old"), ((1, 1), "new")), (("old",), ("old",), ("new", "old")), value), False)
