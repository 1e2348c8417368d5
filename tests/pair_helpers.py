"""Cuts and losses of pairs for the tests."""

from itertools import product

from helpers import Arg
from everycut.errors import InvalidDisk
from everycut.outside.pairs import Pair


def cuts_here(disk, at):
    """All cuts of sectors of a place, with the blocks behind them."""
    rows = {sector: row for sector, row in disk.rows.items() if sector[0] == at}
    for indices in product(*[range(-1, len(row)) for row in rows.values()]):
        cut = {sector: index for sector, index in zip(rows, indices) if index >= 0}
        block = list(disk.settled[at])
        for sector, index in cut.items():
            block[sector[1]] = rows[sector][index]
        yield cut, tuple(block)


def lose_some(rng, pair, many, places):
    """Loses at most so many sectors of some places, those of which the loss is borne when it comes."""
    for _ in range(many):
        told = (rng.randrange(2), rng.choice(places), rng.randrange(4))
        if pair.is_borne(*told):
            pair.lose_on(*told)


def pair_arg(good):
    return Arg(good, lambda value: isinstance(value, Pair), InvalidDisk, [good.one, (good.one, good.other)])
