from random import Random

from helpers import Case, anything
from everycut.plain import deeds
from everycut.plain.deeds import is_deed
from plain_helpers import Model, WRONG_DEEDS, done_deeds, some_deed

EIGHT = ("a", "bb", "ccc", "dddd", "eeeee", "ffffff", "ggggggg", "hhhhhhhh")
MILLIARD = 10 ** 9


class Deeds(Case):
    def test_constants(self):
        self.same([deeds.MAX_NAMES, deeds.MAX_NUMBERS, deeds.PIECE, deeds.MAX_WRITTEN, deeds.MAX_TOGETHER], [8, 96, 8, 32, 6])

    def all_deeds(self, values):
        for value in values:
            self.assertIs(is_deed(value), True, value)

    def no_deeds(self, values):
        for value in values:
            self.assertIs(is_deed(value), False, value)

    def test_deeds_of_one_path(self):
        for word in ("make", "folder", "drop"):
            self.all_deeds([(word, ("a",)), (word, EIGHT), (word, ("z",) * 8)])
            self.no_deeds([(word,), (word, ()), (word, EIGHT + ("i",)), (word, ("a",), ("b",)), (word, ["a"]), (word, "a"),
                           (word, ("A",)), (word, ("a", "")), (word, ("abcdefghi",)), (word, (1,)), (word, None),
                           [word, ("a",)], (word.upper(), ("a",)), (word, ("a",), 0)])

    def test_deeds_of_two_paths(self):
        for word in ("link", "move"):
            self.all_deeds([(word, ("a",), ("b",)), (word, EIGHT, EIGHT), (word, ("a",), ("a", "b"))])
            self.no_deeds([(word, ("a",)), (word, (), ("b",)), (word, ("a",), ()), (word, ("a",), EIGHT + ("i",)),
                           (word, EIGHT + ("i",), ("a",)), (word, ("a",), ["b"]), (word, ("a",), ("b",), ("c",)),
                           (word, ("a",), None), (word, (("a",), ("b",)))])

    def test_writes(self):
        self.all_deeds([("write", ("a",), 0, (0,)), ("write", EIGHT, 96, (MILLIARD - 1,) * 32), ("write", ("a",), 96, (1,))])
        self.no_deeds([("write", ("a",), 97, (0,)), ("write", ("a",), -1, (0,)), ("write", ("a",), True, (0,)),
                       ("write", ("a",), 0, ()), ("write", ("a",), 0, (0,) * 33), ("write", ("a",), 0, [0]),
                       ("write", ("a",), 0, (True,)), ("write", ("a",), 0, (MILLIARD,)), ("write", ("a",), 0, (-1,)),
                       ("write", ("a",), 0, 7), ("write", ("a",), 0), ("write", ("a",), 0, (1,), 2), ("write", (), 0, (0,)),
                       ("write", ("a",), "0", (0,)), ("write", ("a",), (0,), 0), ("write", ("a",), 10 ** 60, (0,)),
                       ("write", ("a",), None, (0,)), ("write", ("a",), 0, ("7",)), ("write", ("a",), 0, ((7,),))])

    def test_cuts(self):
        self.all_deeds([("cut", ("a",), 0), ("cut", EIGHT, 96)])
        self.no_deeds([("cut", ("a",), 97), ("cut", ("a",), -1), ("cut", ("a",), False), ("cut", ("a",)), ("cut", ("a",), 0, 0),
                       ("cut", (), 0), ("cut", ("a",), (0,)), ("cut", ("a",), "0"), ("keep", ("a",), 0), ("write", ("a",), 0)])

    def test_bars(self):
        for word in ("snap", "unsnap", "back"):
            self.all_deeds([(word, "a"), (word, "zzzzzzzz")])
            self.no_deeds([(word,), (word, ""), (word, ("a",)), (word, "A"), (word, "abcdefghi"), (word, "a", "b"), (word, 1),
                           (word, None), [word, "a"]])
        self.all_deeds([("order",)])
        self.no_deeds([("order", "a"), ("order", ("a",)), ["order"], "order", ("Order",), ("order", None), (("order",),)])

    def test_together(self):
        parts = (("make", ("a",)), ("folder", ("b",)), ("write", ("a",), 0, (1,)), ("cut", ("a",), 0), ("link", ("a",), ("c",)),
                 ("drop", ("a",)), ("move", ("b",), ("d",)))
        for first in parts:
            for last in parts:
                self.all_deeds([("all", (first, last)), ("all", (last,) * 6), ("all", (first,) + (last,) * 3)])
            self.no_deeds([("all", (first,)), ("all", (first,) * 7), ("all", [first, first]), ("all", first, first),
                           ("all", (first, ("order",))), ("all", (("snap", "a"), first)), ("all", (first, ("unsnap", "a"))),
                           ("all", (first, ("back", "a"))), ("all", (first, ("all", (first, first)))), ("all", (first, None)),
                           ("all", (first, first), 1), ("all", (first, first[:1])), ("all", (first, list(first)))])
            self.no_deeds([("any", (first, first)), ("order", (first, first)), (None, (first, first))])
        self.no_deeds([("all",), ("all", ()), ("all", None), ("all", {})])

    def test_every_value(self):
        self.no_deeds(anything() + WRONG_DEEDS + [()])

    def test_drawn_deeds(self):
        rng = Random(80)
        model = done_deeds(rng, 60)[2]
        self.all_deeds([some_deed(rng, model) for _ in range(500)] + [some_deed(rng, Model()) for _ in range(100)])
