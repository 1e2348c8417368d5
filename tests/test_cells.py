from itertools import combinations, product
from random import Random

from helpers import Arg, Case, WrongCase, anything, same
from everycut.errors import InvalidBlock, InvalidRow, TooMany
from everycut.rows import cells
from everycut.rows.cells import (
    are_changes, are_rows, changes_between, changes_joined, is_key, is_row_value, row_cells, rows_cells,
    rows_changed, rows_told)

EXAMPLES = '''
>>> SOME = (((1, 16), (1, 0, 7)), ((2, 0, 7), (16,)), ((3, 32), (4,)))
>>> [row_cells((2, 0, 7), (16,)), rows_cells(SOME[2:]), rows_told((1, 5, 1, 6, 2, 5, 0, 1, 6)), rows_told((1, 5, 2, 6)), rows_told((1, 5, 1, 6) * 2), rows_told(())]
[(3, 2, 0, 7, 1, 16), (2, 3, 32, 1, 4), (((5,), (6,)), ((5, 0), (6,))), None, None, ()]
>>> [are_rows(SOME), are_rows(SOME[::-1]), is_key((1, True)), is_row_value(()), are_changes({(1,): None})]
[True, False, False, False, True]
>>> [rows_changed(SOME, {(3, 32): (5,), (2, 0, 7): None, (9,): None}), changes_between(SOME, SOME[:1]), changes_joined({(1,): (2,), (3,): (4,)}, {(1,): None, (0,): (1,)})]
[(((1, 16), (1, 0, 7)), ((3, 32), (5,))), {(2, 0, 7): None, (3, 32): None}, {(0,): (1,), (1,): None, (3,): (4,)}]
>>> rows_cells((((1,), ()),))
raises InvalidRow
'''

LAST = 10 ** 18 - 1


def counted(many, first=0):
    """Rows with the keys of so many numbers."""
    return tuple(((number,), (number,)) for number in range(first, first + many))


def random_key(rng):
    return tuple(rng.choice((0, 1, 2, LAST)) for _ in range(rng.randrange(1, 4)))


def random_value(rng):
    return tuple(rng.choice((0, 1, LAST)) for _ in range(rng.randrange(1, 9)))


def random_rows(rng, most=12):
    found = {random_key(rng): random_value(rng) for _ in range(rng.randrange(most))}
    return tuple(sorted(found.items()))


def random_changes(rng, most=12):
    return {random_key(rng): rng.choice((None, random_value(rng))) for _ in range(rng.randrange(most))}


def told_slowly(row):
    key, value = row
    return [len(key), *key, len(value), *value]


class Rows(Case):
    def test_examples(self):
        self.examples(EXAMPLES, dict(vars(cells)))

    def test_constants(self):
        self.same([cells.MOST_KEY, cells.MOST_VALUE, cells.MOST_ROWS], [3, 8, 2000])

    def test_keys_and_values(self):
        for length in range(12):
            self.assertIs(is_key((0,) * length), 1 <= length <= 3)
            self.assertIs(is_row_value((LAST,) * length), 1 <= length <= 8)
        for wrong in (-1, LAST + 1, True, False, None, "a", (), (1,), [1], {}):
            for judge in (is_key, is_row_value):
                self.assertIs(judge((wrong,)), False)
                self.assertIs(judge((1, wrong)), False)
        for value in anything():
            fits = type(value) is tuple and all(type(cell) is int and 0 <= cell <= LAST for cell in value)
            self.assertIs(is_key(value), fits and 1 <= len(value) <= 3)
            self.assertIs(is_row_value(value), fits and 1 <= len(value) <= 8)

    def test_are_rows(self):
        good = ((), (((1,), (1,)),), counted(2000), (((5,), (0,)), ((5, 0), (0,)), ((5, 0, 0), (0,)), ((6,), (0,))))
        for rows in good:
            self.assertIs(are_rows(rows), True)
            self.assertIs(are_rows(list(rows)), False)
        row = ((1,), (1,))
        for wrong in (counted(2001), (row, row), (((5, 0), (0,)), ((5,), (0,))), (((2,), (0,)), ((1, 7), (0,))),
                      row, ([(1,), (1,)],), (((1,), (1,), (1,)),), (((1,),),), (((), (1,)),), (((1,), ()),),
                      (((1,) * 4, (1,)),), (((1,), (1,) * 9),), (([1], (1,)),), (((1,), [1]),), (((True,), (1,)),),
                      (((1,), (False,)),), (((1,), None),), (((-1,), (1,)),), (((1,), (10 ** 18,)),), {(1,): (1,)},
                      (row, ((1,), (2,))), (row, None), (row, ())):
            self.assertIs(are_rows(wrong), False)
        for value in anything():
            self.assertIs(are_rows(value), value == () and type(value) is tuple)

    def test_are_changes(self):
        for good in ({}, {(1,): None}, {(2,): (1,), (1,): (LAST,) * 8, (1, 1, 1): None},
                     {key: (1,) for key, _ in counted(2000)}):
            self.assertIs(are_changes(good), True)
        for wrong in ({(1,): ()}, {(): None}, {1: None}, {(True,): None}, {(1,): (True,)}, {(1,): [1]}, {(1,): False},
                      {(1,): 0}, {(1,) * 4: None}, {(1,): (1,) * 9}, {None: None}, {"a": None}, {(1,): None, (-1,): None},
                      {key: (1,) for key, _ in counted(2001)}, {key: None for key, _ in counted(2001)}, (), [], None):
            self.assertIs(are_changes(wrong), False)
        for value in anything():
            self.assertIs(are_changes(value), value == {} and type(value) is dict)


class Cells(Case):
    def test_each_length(self):
        for key, value in product(((9,), (9, 8), (9, 8, 7)), [(5,) * length for length in range(1, 9)]):
            told = (len(key),) + key + (len(value),) + value
            self.same([row_cells(key, value), rows_cells(((key, value),)), rows_told(told)],
                      [told, told, ((key, value),)])
            self.assertLessEqual(len(told), 13)
            for cut in range(1, len(told)):
                self.assertIsNone(rows_told(told[:cut]))
            self.assertIsNone(rows_told(told + (0,)))
        self.same(len(row_cells((1, 1, 1), (1,) * 8)), 13)

    def test_there_and_back(self):
        rng = Random(51)
        for _ in range(400):
            rows = random_rows(rng)
            told = rows_cells(rows)
            self.same(told, tuple(cell for row in rows for cell in told_slowly(row)))
            self.same(rows_told(told), rows)

    def test_each_cells_tell_one_rows_at_most(self):
        # All short tuples of small cells: what they tell, if anything, is told by just these cells.
        for length in range(8):
            for some in product(range(4 if length < 7 else 3), repeat=length):
                rows = rows_told(some)
                if rows is not None:
                    self.assertTrue(are_rows(rows))
                    self.assertTrue(same(rows_cells(rows), some))

    def test_rows_that_are_told_are_found(self):
        keys = [(1,), (1, 0), (2,)]
        wanted = {}
        for many in range(4):
            for there in combinations(keys, many):
                for values in product([(0,), (0, 1)], repeat=many):
                    rows = tuple(zip(there, values))
                    wanted[tuple(cell for row in rows for cell in told_slowly(row))] = rows
        for some, rows in wanted.items():
            self.same(rows_told(some), rows)
            for cut in range(len(some)):
                self.same(rows_told(some[:cut]), wanted.get(some[:cut]))

    def test_cells_that_tell_no_rows(self):
        for wrong in ((0,), (0, 1, 1), (1,), (1, 5), (1, 5, 0), (1, 5, 1), (1, 5, 9, 1, 1, 1, 1, 1, 1, 1, 1, 1),
                      (4, 1, 1, 1, 1, 1, 1), (LAST, 1, 1), (1, 5, LAST, 1), (1, 5, 2, 6), (2, 5, 1, 6), (1, 5, 1, 6, 0),
                      (1, 5, 1, 6, 1), (1, 5, 1, 6, 1, 5, 1, 6), (1, 5, 1, 6, 1, 4, 1, 6), (2, 5, 0, 1, 6, 1, 5, 1, 6),
                      (3, 1, 2, 3, 1), (3, 1, 2, 3)):
            self.assertIsNone(rows_told(wrong))
        self.same(rows_told((1, LAST, 1, LAST)), (((LAST,), (LAST,)),))

    def test_most_rows(self):
        told = tuple(cell for row in counted(2001) for cell in told_slowly(row))
        self.same(rows_told(told[:8000]), counted(2000))
        self.same(rows_cells(counted(2000)), told[:8000])
        self.assertIsNone(rows_told(told))
        self.refuses(InvalidRow, None, lambda: rows_cells(counted(2001)))

    def test_most_cells(self):
        self.assertIsNone(rows_told((0,) * 30000))
        self.refuses(InvalidBlock, None, lambda: rows_told((0,) * 30001))
        wide = tuple(((0, 0, number), (7,) * 8) for number in range(2000))
        self.same(len(rows_cells(wide)), 26000)
        self.same(rows_told(rows_cells(wide)), wide)
        self.refuses(InvalidBlock, None, lambda: rows_told((0, True)))

    def test_not_true(self):
        # [5.4] rows with unlike keys can be told by equally many cells.
        self.same([len(row_cells((1,), (1, 1))), len(row_cells((1, 1), (1,)))], [5, 5])
        there, back = {(1,): (2,)}, (((1,), (1,)),)
        self.same(rows_changed(rows_changed(back, there), there), (((1,), (2,)),))
        first, last = {(1,): (1,)}, {(1,): (2,)}
        self.assertFalse(same(changes_joined(first, last), changes_joined(last, first)))


class Changes(Case):
    def test_changed_against_a_dict(self):
        rng = Random(52)
        for _ in range(600):
            rows, changes = random_rows(rng), random_changes(rng)
            kept = dict(changes)
            model = dict(rows)
            for key, value in changes.items():
                model.pop(key, None)
                if value is not None:
                    model[key] = value
            self.same(rows_changed(rows, changes), tuple(sorted(model.items())))
            self.same(changes, kept)

    def test_changed_one_by_one(self):
        rows = (((1,), (1,)), ((1, 0), (2,)))
        for changes, wanted in (
                ({}, rows), ({(1,): (1,)}, rows), ({(5,): None}, rows), ({(1,): None}, rows[1:]),
                ({(1,): (3,)}, (((1,), (3,)), rows[1])), ({(0,): (3,)}, (((0,), (3,)),) + rows),
                ({(1, 1): (3,)}, rows + (((1, 1), (3,)),)), ({(1, 0): None, (1,): None}, ()),
                ({(2,): (9,), (1, 0, 0): (8,)}, rows + (((1, 0, 0), (8,)), ((2,), (9,))))):
            self.same(rows_changed(rows, changes), wanted)
        self.same(rows_changed((), {(2,): (1,), (1,): (1,), (3,): None}), (((1,), (1,)), ((2,), (1,))))

    def test_changed_bounds(self):
        self.same(len(rows_changed(counted(1999), {(5000,): (1,)})), 2000)
        self.refuses(TooMany, 2000, lambda: rows_changed(counted(2000), {(5000,): (1,)}))
        self.same(len(rows_changed(counted(2000), {(5000,): (1,), (0,): None})), 2000)
        self.same(len(rows_changed(counted(2000), {(0,): (9,), (5000,): None})), 2000)
        self.refuses(TooMany, 2000, lambda: rows_changed(counted(2000), {(5000,): (1,), (5001,): (1,), (0,): None}))
        self.same(rows_changed(counted(2000), {key: None for key, _ in counted(2000)}), ())

    def test_between_leads_and_is_least(self):
        rng = Random(53)
        for _ in range(400):
            one = random_rows(rng)
            other = random_rows(rng) if rng.randrange(2) else rows_changed(one, random_changes(rng, 4))
            changes = changes_between(one, other)
            self.assertTrue(are_changes(changes))
            self.same(list(changes), sorted(changes))
            self.same(rows_changed(one, changes), other)
            first, last = dict(one), dict(other)
            self.assertEqual(set(changes), {key for key in {**first, **last} if first.get(key) != last.get(key)})
            for key in changes:
                fewer = {there: value for there, value in changes.items() if there != key}
                self.assertNotEqual(rows_changed(one, fewer), other)
            self.same(changes_between(one, one), {})

    def test_between_bounds(self):
        one, other = counted(1000), counted(1000, 5000)
        changes = changes_between(one, other)
        self.same([len(changes), list(changes)[0], list(changes.values())[999:1001]], [2000, (0,), [None, (5000,)]])
        self.refuses(TooMany, 2000, lambda: changes_between(one, counted(1001, 5000)))
        self.same(len(changes_between(counted(2000), counted(2000, 1000))), 2000)
        self.refuses(TooMany, 2000, lambda: changes_between(counted(2000), counted(2000, 1001)))
        self.same([changes_between(counted(2000), counted(2000)), changes_between((), ())], [{}, {}])

    def test_joined(self):
        rng = Random(54)
        for _ in range(400):
            rows = random_rows(rng)
            first, mid, last = [random_changes(rng) for _ in range(3)]
            kept = dict(first), dict(mid)
            both = changes_joined(first, mid)
            self.same(list(both), sorted(both))
            self.assertEqual(both, {**first, **mid})
            self.same(rows_changed(rows, both), rows_changed(rows_changed(rows, first), mid))
            self.same(changes_joined(both, last), changes_joined(first, changes_joined(mid, last)))
            self.same(rows_changed(rows, changes_joined(both, last)),
                      rows_changed(rows_changed(rows_changed(rows, first), mid), last))
            self.assertEqual((first, mid), kept)
        self.same(changes_joined({}, {}), {})
        self.same(changes_joined({(1,): None}, {(1,): (1,)}), {(1,): (1,)})

    def test_joined_bounds(self):
        first = {key: (1,) for key, _ in counted(1000)}
        last = {key: None for key, _ in counted(1000, 1000)}
        self.same(len(changes_joined(first, last)), 2000)
        self.refuses(TooMany, 2000, lambda: changes_joined(first, {**last, (9999,): None}))
        self.same(len(changes_joined({**first, **last}, {(5,): None})), 2000)

    def test_results_are_new(self):
        first, last = {(1,): (1,)}, {}
        for found in (changes_joined(first, last), changes_joined(last, first)):
            found[(2,)] = None
            self.same([first, last], [{(1,): (1,)}, {}])


def rows_arg():
    more = [((1,), (1,)), (((1,), ()),), [((1,), (1,))], (((2,), (1,)), ((1,), (1,))), counted(2001)]
    return Arg((((1,), (1,)),), lambda value: value == () and type(value) is tuple, InvalidRow, more)


def changes_arg():
    more = [{(1,): ()}, {(): None}, {(1,): 1}, {(True,): None}, {key: None for key, _ in counted(2001)}, ((1,), None)]
    return Arg({(1,): None}, lambda value: value == {} and type(value) is dict, InvalidRow, more)


class Wrong(WrongCase):
    def test_row_cells(self):
        wrong_key = [(), (1,) * 4, (True,), [1], (-1,), (10 ** 18,), (None,)]
        self.wrong_calls(row_cells, [Arg((1,), is_key, InvalidRow, wrong_key),
                                     Arg((1,), is_row_value, InvalidRow, wrong_key[:1] + [(1,) * 9] + wrong_key[2:])])

    def test_rows(self):
        self.wrong_calls(rows_cells, [rows_arg()])
        self.wrong_calls(rows_changed, [rows_arg(), changes_arg()])
        self.wrong_calls(changes_between, [rows_arg(), rows_arg()])
        self.wrong_calls(changes_joined, [changes_arg(), changes_arg()])

    def test_cells(self):
        some = [(1, True), (-1,), (10 ** 18,), (None,), [1], (0,) * 30001]
        self.wrong_calls(rows_told, [Arg((), lambda value: type(value) is tuple and value not in some[:4] and all(
            type(cell) is int for cell in value) and len(value) < 30001, InvalidBlock, some)])

    def test_wrong_ones_ahead_of_too_many(self):
        self.refuses(InvalidRow, None, lambda: rows_changed(counted(2000), {(5000,): (1,), (6000,): ()}))
        self.refuses(InvalidRow, None, lambda: changes_between(counted(2000), counted(2001, 5000)))
        self.refuses(InvalidRow, None, lambda: changes_joined({key: None for key, _ in counted(2000)}, {(): None}))
