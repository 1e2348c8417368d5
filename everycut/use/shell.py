"""A shell that does what lines of words tell to a volume."""

from everycut.errors import InvalidOperation
from everycut.errors import Refused
from everycut.keep.lots import lot_number
from everycut.keep.volumes import made
from everycut.keep.volumes import mount
from everycut.outside.disks import PARTS
from everycut.outside.disks import is_cut
from everycut.outside.pairs import fresh_pair
from everycut.use.texts import Words
from everycut.use.texts import path_word
from everycut.use.texts import tree_text

MOST_PLACE = 10 ** 9

BARE_WORDS = ("sync", "turn", "mount", "tree", "volume", "lots")


def reason_text(reason):
    """The words, numbers and paths of a reason, and of a reason within it."""
    if reason[0] == "all":
        return f"all {reason[1]} {reason_text(reason[2])}"
    return " ".join([reason[0]] + [path_word(path) if isinstance(path, tuple) else path for path in reason[1:]])


class Shell:
    """A volume to which lines are done; it changes."""

    def __init__(self, size, log):
        self._volume = made(fresh_pair(size), log)

    @property
    def volume(self):
        """The volume as it is now."""
        return self._volume

    def run(self, line):
        """Does a line, and returns its answer."""
        words = Words(line)
        word = words.coming(0)
        if word in BARE_WORDS:
            words.word_of(BARE_WORDS)
            words.check_over()
            return self._bare(word)
        if word == "lose":
            return self._lose(words)
        if word == "cut" and words.coming(1) == "one":
            return self._cut(words)
        deed = words.next_deed()
        words.check_over()
        return self._do(deed)

    def _bare(self, word):
        """Does a line of one word."""
        if word == "sync":
            self._volume.sync()
            return "synced"
        if word == "turn":
            self._volume.turn()
            return "turned"
        if word == "mount":
            return self._mount(self._volume.pair)
        if word == "tree":
            return tree_text(self._volume.tree)
        return str(self._volume) if word == "volume" else str(lot_number(self._volume))

    def _mount(self, pair):
        """Mounts a pair."""
        self._volume = mount(pair)
        return "mounted"

    def _do(self, deed):
        """Does a deed."""
        number = self._volume.number
        try:
            self._volume.do(deed)
        except Refused as error:
            return f"refused {reason_text(error.reason)}"
        return f"done {number}"

    def _cut(self, words):
        """Cuts both disks, and mounts what is left."""
        words.word_of(("cut",))
        one, other = words.next_cuts()
        words.check_over()
        pair = self._volume.pair
        if not is_cut(pair.one, one) or not is_cut(pair.other, other):
            return "no cut"
        return self._mount(pair.behind(one, other))

    def _lose(self, words):
        """Loses a sector, if that is borne."""
        words.word_of(("lose",))
        which = ("one", "other").index(words.word_of(("one", "other")))
        at = words.next_number(MOST_PLACE)
        part = words.next_number(PARTS - 1)
        words.check_over()
        pair = self._volume.pair
        if at >= pair.size or not pair.is_borne(which, at, part):
            return "not borne"
        pair.lose_on(which, at, part)
        return "lost"


def answers(size, log, lines):
    """The tuple of the answers of a new shell to some lines."""
    if not isinstance(lines, tuple):
        raise InvalidOperation("not a tuple of lines")
    shell = Shell(size, log)
    return tuple([shell.run(line) for line in lines])
