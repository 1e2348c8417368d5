"""Texts of deeds, trees and cuts."""

from everycut.base.checks import is_number
from everycut.base.names import is_name
from everycut.base.names import is_path
from everycut.errors import InvalidCut
from everycut.errors import InvalidDeed
from everycut.errors import ParseError
from everycut.keep.sends import path_lines
from everycut.outside.disks import MOST_BLOCKS
from everycut.outside.disks import PARTS
from everycut.outside.disks import is_sector_place
from everycut.plain.deeds import LEAST_TOGETHER
from everycut.plain.deeds import MAX_NUMBERS
from everycut.plain.deeds import MAX_TOGETHER
from everycut.plain.deeds import MAX_WRITTEN
from everycut.plain.deeds import MOST_NUMBER
from everycut.plain.deeds import PATHS_WORDS
from everycut.plain.deeds import PATH_WORDS
from everycut.plain.deeds import SHOT_WORDS
from everycut.plain.deeds import check_deed
from everycut.plain.deeds import is_deed
from everycut.plain.trees import check_tree

MOST_CUT_INDEX = 9999

FIGURES = "0123456789"
PART_WORDS = PATH_WORDS + PATHS_WORDS + ("write", "cut")


def path_word(path):
    """The word of a path with at least one name."""
    return "/" + "/".join(path)


def word_path(word):
    """The path that a word tells, None if it tells none."""
    if not word.startswith("/"):
        return None
    path = tuple(word[1:].split("/"))
    return path if is_path(path) else None


def word_number(word, most):
    """The number up to the most that a word tells, None if it tells none."""
    # Very long words are left out ahead of being read as numbers, and so are figures of other kinds.
    if not 1 <= len(word) <= len(str(most)) or not all([figure in FIGURES for figure in word]):
        return None
    number = int(word)
    return number if str(number) == word and number <= most else None


class Words:
    """The words of a text, read one behind the other."""

    def __init__(self, text):
        if not isinstance(text, str):
            raise ParseError(0)
        self._words = text.split(" ")
        self._read = 0

    def coming(self, ahead):
        """The word that comes behind so many others that come; None behind the last one."""
        at = self._read + ahead
        return self._words[at] if at < len(self._words) else None

    def is_over(self):
        """Whether no word comes."""
        return self._read == len(self._words)

    def check_over(self):
        """Raises ParseError if a word comes."""
        if not self.is_over():
            raise ParseError(self._read)

    def taken_as(self, value):
        """Takes the word that comes as a value; raises ParseError if there is none."""
        if value is None:
            raise ParseError(self._read)
        self._read += 1
        return value

    def word_of(self, words):
        """The next word, which is one of some words."""
        word = self.coming(0)
        return self.taken_as(word if word in words else None)

    def next_name(self):
        """The next name."""
        word = self.coming(0)
        return self.taken_as(word if is_name(word) else None)

    def next_path(self):
        """The next path."""
        word = self.coming(0)
        return self.taken_as(None if word is None else word_path(word))

    def next_number(self, most):
        """The next number, up to the most."""
        word = self.coming(0)
        return self.taken_as(None if word is None else word_number(word, most))

    def next_numbers(self, least, most):
        """All numbers that stand next, from the least many to the most."""
        found = []
        while len(found) < most:
            word = self.coming(0)
            if len(found) >= least and (word is None or word_number(word, MOST_NUMBER) is None):
                break
            found.append(self.next_number(MOST_NUMBER))
        return tuple(found)

    def next_part(self):
        """The next deed of one of the first seven words."""
        word = self.word_of(PART_WORDS)
        path = self.next_path()
        if word in PATHS_WORDS:
            return (word, path, self.next_path())
        if word == "write":
            start = self.next_number(MAX_NUMBERS)
            return (word, path, start, self.next_numbers(1, MAX_WRITTEN))
        return (word, path, self.next_number(MAX_NUMBERS)) if word == "cut" else (word, path)

    def next_parts(self):
        """The next two to six deeds of the first seven words."""
        found = [self.next_part()]
        while len(found) < LEAST_TOGETHER or (len(found) < MAX_TOGETHER and not self.is_over()):
            self.word_of((";",))
            found.append(self.next_part())
        return tuple(found)

    def next_deed(self):
        """The next deed."""
        word = self.coming(0)
        if word in PART_WORDS:
            return self.next_part()
        self.word_of(SHOT_WORDS + ("order", "all"))
        if word == "order":
            return (word,)
        return (word, self.next_parts()) if word == "all" else (word, self.next_name())

    def next_cut(self):
        """The next cut: all sectors that stand next, ascending."""
        found = {}
        last = (-1, 0)
        while self.coming(0) is not None and "=" in self.coming(0):
            told = _sector_told(self.coming(0))
            sector, index = self.taken_as(told if told is not None and told[0] > last else None)
            found[sector] = index
            last = sector
        return found

    def next_cuts(self):
        """The next pair of cuts."""
        self.word_of(("one",))
        one = self.next_cut()
        self.word_of(("other",))
        return (one, self.next_cut())


def _sector_told(word):
    """The pair of a sector and an index that a word tells, None if it tells none."""
    at, _, behind = word.partition(".")
    part, _, index = behind.partition("=")
    found = (word_number(at, MOST_BLOCKS - 1), word_number(part, PARTS - 1), word_number(index, MOST_CUT_INDEX))
    return None if None in found else (found[:2], found[2])


def _member_text(member):
    """The words of a part of a deed: a place or size, a name, a path, numbers, or deeds."""
    if isinstance(member, int):
        return str(member)
    if isinstance(member, str):
        return member
    if isinstance(member[0], str):
        return path_word(member)
    if isinstance(member[0], int):
        return " ".join([str(number) for number in member])
    return " ; ".join([text_of_deed(deed) for deed in member])


def text_of_deed(deed):
    """The text of a deed, which was checked."""
    return " ".join([deed[0]] + [_member_text(member) for member in deed[1:]])


def deed_text(deed):
    """The text of a deed."""
    check_deed(deed)
    return text_of_deed(deed)


def read_deed(text):
    """The deed of a text."""
    words = Words(text)
    deed = words.next_deed()
    words.check_over()
    return deed


def sent_text(deeds):
    """The texts of some deeds, a line for each."""
    if not isinstance(deeds, tuple) or not all([is_deed(deed) for deed in deeds]):
        raise InvalidDeed("not a tuple of deeds")
    return "\n".join([text_of_deed(deed) for deed in deeds])


def _read_line(at, line):
    """The deed of a line; ParseError keeps the index of the line, too."""
    try:
        return read_deed(line)
    except ParseError as error:
        raise ParseError((at, error.at))


def read_sent(text):
    """The tuple of the deeds that the lines of a text tell."""
    if not isinstance(text, str):
        raise ParseError((0, 0))
    if text == "":
        return ()
    return tuple([_read_line(at, line) for at, line in enumerate(text.split("\n"))])


def _line_text(path, first, numbers):
    """The line of a path in the text of a tree; the first path of its file is None for a folder."""
    if first is None:
        return f"folder {path_word(path)}"
    if first == path:
        return " ".join(["file", path_word(path)] + [str(number) for number in numbers])
    return f"link {path_word(first)} {path_word(path)}"


def tree_text(tree):
    """The text of a tree."""
    check_tree(tree)
    return "\n".join([_line_text(path, first, numbers) for path, first, numbers in path_lines(tree)])


class TreeLines:
    """The lines of the text of a tree that were read: the last path, folders, and first paths of files."""

    def __init__(self):
        self.last = ()
        self.folders = {(): True}
        self.firsts = {}

    def deeds_of(self, line):
        """The deeds that make what the next line tells; raises ParseError if no tree has it next."""
        words = Words(line)
        word = words.word_of(("folder", "file", "link"))
        first = words.next_path() if word == "link" else None
        path = words.next_path()
        numbers = words.next_numbers(0, MAX_NUMBERS) if word == "file" else ()
        words.check_over()
        is_next = path > self.last and path[:-1] in self.folders
        if not is_next or (word == "link" and first not in self.firsts):
            raise ParseError(0)
        self.last = path
        if word == "link":
            return [("link", first, path)]
        if word == "folder":
            self.folders[path] = True
            return [("folder", path)]
        self.firsts[path] = True
        starts = range(0, len(numbers), MAX_WRITTEN)
        return [("make", path)] + [("write", path, at, numbers[at:at + MAX_WRITTEN]) for at in starts]


def read_tree(text):
    """The tuple of the deeds that make a tree with this text."""
    if not isinstance(text, str):
        raise ParseError(0)
    lines = text.split("\n") if text else []
    told = TreeLines()
    deeds = []
    for at, line in enumerate(lines):
        try:
            deeds.extend(told.deeds_of(line))
        except ParseError:
            raise ParseError(at)
    return tuple(deeds)


def _is_told_cut(value):
    """Whether the value is a dict from sectors to indices that a text can tell."""
    if not isinstance(value, dict):
        return False
    if not all([is_sector_place(sector, MOST_BLOCKS) for sector in value]):
        return False
    return all([is_number(index, 0, MOST_CUT_INDEX) for index in value.values()])


def cuts_text(cuts):
    """The text of a pair of cuts."""
    if not isinstance(cuts, tuple) or len(cuts) != 2 or not all([_is_told_cut(cut) for cut in cuts]):
        raise InvalidCut("not a tuple of two cuts")
    words = []
    for word, cut in zip(("one", "other"), cuts):
        words.append(word)
        words.extend([f"{at}.{part}={cut[(at, part)]}" for at, part in sorted(cut)])
    return " ".join(words)


def read_cuts(text):
    """The pair of cuts of a text."""
    words = Words(text)
    told = words.next_cuts()
    words.check_over()
    return told
