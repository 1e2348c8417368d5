from random import Random

from helpers import Arg, Case, WrongCase, anything
from everycut.errors import InvalidCut, InvalidDeed, ParseError
from everycut.keep.sends import are_alike, difference, is_difference
from everycut.plain import trees
from everycut.plain.deeds import is_deed
from everycut.plain.trees import Tree, done
from everycut.use import texts
from everycut.use.texts import cuts_text, deed_text, read_cuts, read_deed, read_sent, read_tree, sent_text, tree_text
from plain_helpers import Model, deed_arg, done_deeds, some_deed, tree_arg
from volume_helpers import seeds, small_tree

EXAMPLES = '''
>>> [deed_text(("write", ("a", "f"), 2, (7, 8))), deed_text(("all", (("make", ("a",)), ("move", ("a",), ("b",))))), read_deed("cut /a/f 0"), read_deed("order")]
['write /a/f 2 7 8', 'all make /a ; move /a /b', ('cut', ('a', 'f'), 0), ('order',)]
>>> [read_tree("folder /a\\nfile /a/f 0 7\\nlink /a/f /g"), cuts_text(({(5, 1): 0}, {})), read_cuts("one other 2.0=1 2.3=0"), read_sent("make /a\\nsnap s")]
[(('folder', ('a',)), ('make', ('a', 'f')), ('write', ('a', 'f'), 0, (0, 7)), ('link', ('a', 'f'), ('g',))), 'one 5.1=0 other', ({}, {(2, 0): 1, (2, 3): 0}), (('make', ('a',)), ('snap', 's'))]
>>> tree_text(done(done(Tree(), 1, ("folder", ("a",))), 2, ("make", ("a", "f"))))
'folder /a\\nfile /a/f'
>>> read_deed("write /a 07")
raises ParseError(2)
>>> read_tree("make /a")
raises ParseError(0)
'''

EIGHT = ("a", "bb", "ccc", "dddd", "eeeee", "ffffff", "ggggggg", "zzzzzzzz")
MOST = 10 ** 9 - 1
GREATEST = ("all", (("write", EIGHT, 96, (MOST,) * 32),) * 6)
ALL_WORDS = (("make", ("a",)), ("folder", EIGHT), ("write", ("a",), 0, (0,)), ("write", EIGHT, 96, (MOST,) * 32), ("cut", ("a",), 0), ("cut", ("z",), 96), ("link", ("a",), EIGHT),
             ("drop", EIGHT), ("move", EIGHT, ("a",)), ("snap", "a"), ("unsnap", "zzzzzzzz"), ("back", "s"), ("order",), ("all", (("drop", ("a",)),) * 2), GREATEST)

# What may stand at each place of a deed, told by the words that fit there, for a slow reader.
GRAMMAR = {"make": "P", "folder": "P", "drop": "P", "write": "PS" + "N" * 32, "cut": "PS", "link": "PP", "move": "PP"}


def is_figure(word, most):
    return word.isascii() and word.isdigit() and str(int(word[:30])) == word and int(word) <= most


def is_path_word(word):
    names = word.split("/")
    return names[0] == "" and 2 <= len(names) <= 9 and all(1 <= len(name) <= 8 and all("a" <= one <= "z" for one in name) for name in names[1:])


def fits(kind, word):
    if kind == "P":
        return is_path_word(word)
    if kind == "S":
        return is_figure(word, 96)
    if kind == "N":
        return is_figure(word, MOST)
    if kind == "T":
        return 1 <= len(word) <= 8 and all("a" <= one <= "z" for one in word)
    return word == kind


def slow_where(text):
    """None if the text is that of a deed, else the index that ParseError keeps; straight as the stage says."""
    words = text.split(" ")
    # All rows of kinds that the words can have so far, as rows of what may come next.
    head = words[0]
    if head in ("snap", "unsnap", "back"):
        rows = [["T"]]
    elif head == "order":
        rows = [[]]
    elif head in GRAMMAR:
        rows = ends(head)
    elif head == "all":
        return slow_all(words)
    else:
        return 0
    return walk(words, 1, rows)


def ends(head):
    kinds = list(GRAMMAR[head])
    return [kinds[:many] for many in range(3, len(kinds) + 1)] if head == "write" else [kinds]


def walk(words, at, rows):
    depth = 0
    while at < len(words):
        rows = [row for row in rows if len(row) > depth and fits(row[depth], words[at])]
        if not rows:
            return at
        depth += 1
        at += 1
    return None if any(len(row) == depth for row in rows) else at


def slow_all(words):
    at, parts = 1, 0
    while True:
        if at >= len(words):
            return at
        if words[at] not in GRAMMAR:
            return at
        end = words.index(";", at) if ";" in words[at:] else len(words)
        stop = walk(words[:end], at + 1, ends(words[at]))
        if stop is not None and (stop < end or end == len(words)):
            return stop
        if stop is not None:
            return end
        parts += 1
        if end == len(words):
            return None if 2 <= parts else end
        if parts == 6:
            return end
        at = end + 1


class Deeds(Case):
    def test_examples(self):
        self.examples(EXAMPLES, {**vars(texts), **vars(trees)})

    def test_there_and_back(self):
        rng = Random(240)
        deeds = list(ALL_WORDS)
        model = Model()
        for at in range(300):
            deed = some_deed(rng, model, bars=3)
            if model.reason(deed) is None:
                model.do(deed, at + 1)
            deeds.append(deed)
        seen = {}
        for deed in deeds:
            text = deed_text(deed)
            self.same(read_deed(text), deed)
            self.same(seen.setdefault(text, deed), deed)
            self.same([slow_where(text), "  " in text, text == text.strip()], [None, False, True])
        self.same(deed_text(GREATEST).count(" "), 6 * 35 + 5)
        self.same([deed_text(deed) for deed in ALL_WORDS[:3] + ALL_WORDS[4:6] + ALL_WORDS[9:14]],
                  ["make /a", "folder /" + "/".join(EIGHT), "write /a 0 0", "cut /a 0", "cut /z 96", "snap a", "unsnap zzzzzzzz", "back s", "order", "all drop /a ; drop /a"])

    def checked(self, text):
        where = slow_where(text)
        if where is None:
            deed = read_deed(text)
            self.assertTrue(is_deed(deed))
            self.same(deed_text(deed), text)
        else:
            self.refuses(ParseError, where, lambda: read_deed(text))
        return where

    def test_words_changed(self):
        # Words changed, doubled, left out, put in: each text is read, or refused at its first word that does not fit.
        rng = Random(241)
        model = Model()
        pieces = ["make", "folder", "write", "cut", "all", ";", "order", "snap", "s", "/a", "/a/b", "/", "//", "/a/", "a/b", "0", "7", "00", "07", "96", "97", "-1", "+1", "1.0", "", str(MOST), str(MOST + 1),
                  "1" * 30, "/" + "/".join("a" * 9), "/abcdefghi", "/A", "\t", "/a\n", "1\n", "one", "=", "/\u00e9", "\u0661", "1_0", "0x1"]
        counts = {}
        for at in range(500):
            deed = some_deed(rng, model, bars=2)
            if model.reason(deed) is None:
                model.do(deed, at + 1)
            words = deed_text(deed).split(" ")
            for _ in range(4):
                some = list(words)
                place = rng.randrange(len(some))
                kind = rng.randrange(5)
                if kind == 0:
                    some[place] = rng.choice(pieces)
                elif kind == 1:
                    some.insert(place, some[place])
                elif kind == 2:
                    del some[place]
                elif kind == 3:
                    some.insert(rng.randrange(len(some) + 1), rng.choice(pieces))
                else:
                    some = some[:place]
                where = self.checked(" ".join(some))
                counts[min(where, 9) if where is not None else None] = True
        self.assertGreater(len(counts), 9)

    def test_where_it_fails(self):
        for text, where in (("", 0), (" ", 0), ("  ", 0), ("make", 1), ("make ", 1), (" make /a", 0), ("make  /a", 1), ("make /a ", 2), ("make /a /b", 2), ("order ", 1), ("order order", 1),
                            ("write /a", 2), ("write /a 5", 3), ("write /a 97", 2), ("write /a 96", 3), ("write /a 5 " + str(MOST + 1), 3), ("write /a 5" + " 1" * 32, None), ("write /a 5" + " 1" * 33, 35),
                            ("write /a 5 1 ", 4), ("cut /a", 2), ("cut /a 97", 2), ("cut /a 5 5", 3), ("cut /a -0", 2), ("link /a", 2), ("move /a /b /c", 3), ("snap", 1), ("snap /s", 1), ("snap S", 1),
                            ("snap abcdefghi", 1), ("all", 1), ("all make /a", 3), ("all make /a ;", 4), ("all make /a ; make /b", None), ("all make /a ; make /b ;", 7), ("all make /a make /b", 3), ("all order ; order", 1),
                            ("all make /a ; snap s", 4), ("all make /a ; all", 4), ("all ; make /a", 1), ("all write /a 0 ; make /b", 4), ("all write /a 0 1 ; write /b 0" + " 1" * 32, None),
                            ("all write /a 0" + " 1" * 32 + " ; make /b", None), ("all write /a 0" + " 1" * 33 + " ; make /b", 36), ("all" + " ;".join([" drop /a"] * 6), None), ("all" + " ;".join([" drop /a"] * 7), 18),
                            ("Make /a", 0), ("make /a\n", 1), ("make\t/a", 0), ("make /a/", 1), ("make /", 1), ("make a", 1), ("make /a//b", 1), ("make /" + "/".join("a" * 9), 1), ("write /a 1 1" + "0" * 5000, 3),
                            ("cut /a " + "9" * 5000, 2), ("mount", 0), (";", 0), ("make /a ; make /b", 2)):
            self.same(slow_where(text), where)
            self.checked(text)

    def test_very_long_texts(self):
        for text, where in (("make /a" + " x" * 100000, 2), ("make " + "/a" * 100000, 1), ("x" * 10 ** 6, 0), ("write /a 0" + " 1" * 100000, 35), ("all" + " ;".join([" drop /a"] * 50000), 18),
                            ("cut /a " + "1" * 10 ** 6, 2), (" " * 10 ** 6, 0), ("\n" * 10 ** 5, 0)):
            self.refuses(ParseError, where, lambda: read_deed(text))

    def test_no_strings(self):
        for value in anything():
            if not isinstance(value, str):
                self.refuses(ParseError, 0, lambda: read_deed(value))
                self.refuses(ParseError, 0, lambda: read_tree(value))
                self.refuses(ParseError, 0, lambda: read_cuts(value))
                self.refuses(ParseError, (0, 0), lambda: read_sent(value))

    def test_rows_of_deeds(self):
        rng = Random(242)
        for many in (0, 1, 2, 40):
            deeds = tuple(rng.choice(ALL_WORDS) for _ in range(many))
            text = sent_text(deeds)
            self.same([read_sent(text), text.count("\n")], [deeds, max(0, many - 1)])
            self.same(text.split("\n") if many else [], [deed_text(deed) for deed in deeds])
        self.same([sent_text(()), read_sent("")], ["", ()])
        for text, where in (("\n", (0, 0)), ("make /a\n", (1, 0)), ("make /a\n\nmake /b", (1, 0)), ("make /a\nmake", (1, 1)), ("make /a\r\nmake /b", (0, 1)), ("order\norder\nwrite /a 07", (2, 2)),
                            (" order", (0, 0)), ("order\norder ", (1, 1)), ("make /a\nall make /a ; snap s\nx", (1, 4))):
            self.refuses(ParseError, where, lambda: read_sent(text))

    def test_differences_as_texts(self):
        rng = Random(243)
        for _ in seeds(0, 20):
            one, other = [done_deeds(rng, rng.choice((2, 20)), "abc", bars=0)[1] for _ in range(2)]
            deeds = difference(one, other)
            self.same([read_sent(sent_text(deeds)), is_difference(one, other, read_sent(sent_text(deeds)))], [deeds, True])


def slow_tree_text(tree):
    """The text of a tree, straight as [19.3] says."""
    lines = []
    for path in tree.paths():
        node = tree.node_at(path)
        word = "".join("/" + name for name in path)
        if tree.kind_of(node) == "folder":
            lines.append("folder " + word)
            continue
        least = min(one for one in tree.paths() if tree.node_at(one) == node)
        if least == path:
            lines.append(" ".join(["file", word] + [str(number) for number in tree.numbers_of(node)]))
        else:
            lines.append("link " + "".join("/" + name for name in least) + " " + word)
    return "\n".join(lines)


def slow_line(text):
    """The first line with which no text of a tree begins, None if the text is that of a tree."""
    folders, files, last = {()}, set(), ()
    for at, line in enumerate(text.split("\n") if text else []):
        words = line.split(" ")
        good = words[0] in ("folder", "file", "link") and len(words) >= 2
        paths = words[1:3] if words[0] == "link" else words[1:2]
        good = good and len(words) == {"folder": 2, "link": 3}.get(words[0], len(words)) and all(map(is_path_word, paths))
        good = good and (words[0] != "file" or len(words) <= 98 and all(is_figure(word, MOST) for word in words[2:]))
        if not good:
            return at
        path = tuple(paths[-1][1:].split("/"))
        if path <= last or path[:-1] not in folders or words[0] == "link" and tuple(paths[0][1:].split("/")) not in files:
            return at
        last = path
        if words[0] == "folder":
            folders.add(path)
        if words[0] == "file":
            files.add(path)
    return None


class Trees(Case):
    def made_of(self, deeds):
        tree = Tree()
        for at, deed in enumerate(deeds):
            tree = done(tree, at + 1, deed)
        return tree

    def test_there_and_back(self):
        rng = Random(244)
        for _ in seeds(0, 40):
            tree = done_deeds(rng, rng.choice((1, 5, 40)), rng.choice(("ab", "abcd")), bars=0)[1]
            text = tree_text(tree)
            self.same([text, slow_line(text)], [slow_tree_text(tree), None])
            deeds = read_tree(text)
            again = self.made_of(deeds)
            self.same([tree_text(again), are_alike(tree, again)], [text, True])
            # In the sequence of the lines, with writes of 32 numbers, the last one of those that are left.
            words = [deed[0] for deed in deeds if deed[0] != "write"]
            self.same(words, [{"file": "make"}.get(line.split(" ")[0], line.split(" ")[0]) for line in text.split("\n") if line])
            for at, deed in enumerate(deeds):
                if deed[0] == "write":
                    self.assertTrue(len(deed[3]) == 32 or at + 1 == len(deeds) or deeds[at + 1][0] != "write")
                    self.same(deed[2] % 32, 0)
            other = done_deeds(rng, 3, "ab", bars=0)[1]
            self.same(tree_text(other) == text, are_alike(tree, other))
        self.same([tree_text(Tree()), read_tree(""), tree_text(small_tree(("snap", "s")))], ["", (), ""])

    def test_files_of_some_sizes(self):
        for size in (0, 1, 31, 32, 33, 64, 65, 95, 96):
            numbers = tuple((at * 7) % 5 * MOST // 4 for at in range(size))
            text = " ".join(["file", "/a"] + [str(number) for number in numbers])
            deeds = read_tree(text)
            self.same(deeds, (("make", ("a",)),) + tuple(("write", ("a",), at, numbers[at:at + 32]) for at in range(0, size, 32)))
            tree = self.made_of(deeds)
            self.same([tree_text(tree), tree.numbers_of(16)], [text, numbers])
        self.refuses(ParseError, 0, lambda: read_tree("file /a" + " 1" * 97))
        self.refuses(ParseError, 1, lambda: read_tree("file /a\nfile /b 1 " + str(MOST + 1)))
        self.same(read_tree("file /a 0 0"), (("make", ("a",)), ("write", ("a",), 0, (0, 0))))

    def test_lines_changed(self):
        rng = Random(245)
        counts = {}
        pieces = ["", " ", "folder /a", "folder /zz", "file /zz 5", "file /zz 05", "link /zz /zzz", "link /a /zzz", "make /zz", "file  /zz", "folder /zz ", "folder /zz /zzz", "folder /a/b/c/d/e/f/g/h/i", "folder /b/zz", "link /zz",
                  "file /c/zz 7\t", "order", "folder zz", "folder /zz\r"]
        for _ in seeds(0, 60):
            tree = done_deeds(rng, rng.choice((3, 12, 30)), "abc", bars=0)[1]
            lines = tree_text(tree).split("\n")
            for _ in range(8):
                some = list(lines)
                place = rng.randrange(len(some))
                kind = rng.randrange(6)
                if kind == 0:
                    some[place] = rng.choice(pieces)
                elif kind == 1:
                    some.insert(place, some[place])
                elif kind == 2:
                    del some[place]
                elif kind == 3:
                    some.insert(rng.randrange(len(some) + 1), rng.choice(pieces))
                elif kind == 4:
                    other = rng.randrange(len(some))
                    some[place], some[other] = some[other], some[place]
                else:
                    words = some[place].split(" ")
                    some[place] = " ".join(words[:-1] + [rng.choice(words)])
                text = "\n".join(some)
                where = slow_line(text)
                counts[where is None] = counts.get(where is None, 0) + 1
                if where is None:
                    self.same(tree_text(self.made_of(read_tree(text))), text)
                else:
                    self.refuses(ParseError, where, lambda: read_tree(text))
        self.assertGreater(min(counts.values()), 60)

    def test_where_it_fails(self):
        for text, where in (("\n", 0), ("folder /a\n", 1), ("folder /a\n\nfolder /b", 1), ("folder /b\nfolder /a", 1), ("folder /a\nfolder /a", 1), ("file /a\nfile /a/b", 1), ("folder /a/b", 0),
                            ("file /a\nlink /a /b\nlink /b /c", 2), ("folder /a\nlink /a /b", 1), ("link /a /b", 0), ("link /b /a\nfile /b", 0), ("file /a\nlink /a /a", 1), ("file /b\nlink /b /a", 1),
                            ("folder /a\nfile /a/b 1\nlink /a/b /c\nfolder /d", None), ("file /a 1 2 x\nfolder", 0), ("folder /a\nlink /z /b\nmake", 1), ("FILE /a", 0), ("file", 0), ("file /a\r\nfile /b", 0)):
            self.same(slow_line(text), where)
            if where is None:
                self.assertTrue(read_tree(text))
            else:
                self.refuses(ParseError, where, lambda: read_tree(text))

    def test_long_trees(self):
        lines = ["folder /" + "abcdefghijklmnopqrstuvwxyz"[at // 26] + "abcdefghijklmnopqrstuvwxyz"[at % 26] for at in range(676)]
        self.same([len(read_tree("\n".join(lines))), slow_line("\n".join(lines))], [676, None])
        self.refuses(ParseError, 676, lambda: read_tree("\n".join(lines) + "\nfolder /a"))

    def test_not_true(self):
        # Two trees with one text need not be equal.
        one = small_tree(("make", ("a",)))
        other = small_tree(("order",), ("make", ("a",)), ("snap", "s"))
        self.same([tree_text(one) == tree_text(other), one == other], [True, False])


class Cuts(Case):
    def test_there_and_back(self):
        rng = Random(246)
        for _ in seeds(0, 60):
            cuts = tuple({(rng.choice((0, 1, 5, 23, 239)), rng.randrange(4)): rng.choice((0, 1, 17, 9999)) for _ in range(rng.randrange(6))} for _ in range(2))
            text = cuts_text(cuts)
            got = read_cuts(text)
            self.same(got, tuple({key: cut[key] for key in sorted(cut)} for cut in cuts))
            self.same(cuts_text(got), text)
        self.same([cuts_text(({}, {})), read_cuts("one other")], ["one other", ({}, {})])
        self.same(cuts_text(({(5, 1): 3, (5, 0): 9999, (0, 3): 0}, {(239, 3): 10})), "one 0.3=0 5.0=9999 5.1=3 other 239.3=10")

    def test_where_it_fails(self):
        for text, where in (("", 0), ("one", 1), ("other", 0), ("one other other", 2), ("one other one", 2), ("one ", 1), ("one  other", 1), ("one other ", 2), ("One other", 0), ("one 5.1=0", 2), ("one 5.1=0 5.1=0 other", 2),
                            ("one 5.1=0 5.0=0 other", 2), ("one 5.1=0 4.3=0 other", 2), ("one 5.1=0 other 5.0=0 4.0=1", 4), ("one 240.0=0 other", 1), ("one 239.4=0 other", 1), ("one 239.3=10000 other", 1), ("one 05.1=0 other", 1),
                            ("one 5.01=0 other", 1), ("one 5.1=00 other", 1), ("one 5.1= other", 1), ("one 5.1 other", 1), ("one 5=1 other", 1), ("one .1=0 other", 1), ("one -1.1=0 other", 1), ("one 5.1=0=0 other", 1),
                            ("one 5.1.1=0 other", 1), ("one +5.1=0 other", 1), ("one 5.1=0\tother", 1), ("one\nother", 0), ("one 5,1=0 other", 1), ("one other 5.1=" + "9" * 5000, 2), ("one \u0665.1=0 other", 1), ("one = other", 1),
                            ("one 5.1=0 x other", 2), ("one other 5.1=0 x", 3)):
            self.refuses(ParseError, where, lambda: read_cuts(text))

    def test_one_word_changed(self):
        # Of each text of cuts and each word changed, just those that are texts of cuts are read.
        words = "one 0.0=5 7.3=10 other 7.3=9 8.0=0".split(" ")
        for at in range(len(words)):
            for new in ("", "one", "other", "0.0=5", "7.3=10", "7.3=9", "239.3=9999", "a", "7.3"):
                text = " ".join(words[:at] + [new] + words[at + 1:])
                try:
                    got = read_cuts(text)
                except ParseError as error:
                    self.assertTrue(0 <= error.at <= len(words))
                    continue
                self.same(cuts_text(got), text)


class Wrong(WrongCase):
    def test_deeds(self):
        self.wrong_calls(deed_text, [deed_arg(("order",))])
        wrong = [[("order",)], ("order",), (("order",), None), (("make", ()),), {("order",): 1}, "order"]
        self.wrong_calls(sent_text, [Arg((), lambda value: type(value) is tuple and all(map(is_deed, value)), InvalidDeed, wrong)])

    def test_trees(self):
        self.wrong_calls(tree_text, [tree_arg(Tree())])

    def test_cuts(self):
        wrong = [({},), ({}, {}, {}), ({}, None), ([], {}), ({(240, 0): 0}, {}), ({(0, 4): 0}, {}), ({(-1, 0): 0}, {}), ({(0, 0): -1}, {}), ({}, {(0, 0): 10000}), ({(0, 0): True}, {}), ({(True, 0): 0}, {}),
                 ({}, {(0, 0): None}), ({(0, 0, 0): 0}, {}), ({0: 0}, {}), ({"5.1": 0}, {})]
        self.wrong_calls(cuts_text, [Arg(({}, {}), lambda value: type(value) is tuple and value == ({}, {}), InvalidCut, wrong)])
        cuts = ({(5, 1): 0, (2, 0): 1}, {})
        cuts_text(cuts)
        self.same(list(cuts[0]), [(5, 1), (2, 0)])
