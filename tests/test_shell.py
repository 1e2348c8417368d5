from random import Random

from helpers import Case, WrongCase, anything, raised
from everycut.errors import InvalidNumber, InvalidOperation, ParseError, TooMany
from everycut.keep.lots import lots_that_can_come
from everycut.keep.volumes import meaning
from everycut.use import shell as shell_module
from everycut.use.shell import Shell, answers
from everycut.use.texts import cuts_text, deed_text, read_deed, tree_text
from test_texts import slow_where
from volume_helpers import Account, drawn_cut, drawn_deed, lots_of, seeds, state_of_volume, told_of

EXAMPLES = '''
>>> answers(24, 4, ("folder /a", "make /a/f", "drop /a", "lots", "sync", "lots", "tree"))
('done 1', 'done 2', 'refused full /a', '3', 'synced', '1', 'folder /a\\nfile /a/f')
'''


def slow_reason(reason):
    """The words of a reason, told by the forms of [8.4]."""
    word = reason[0]
    if word == "all":
        return f"all {reason[1]} " + slow_reason(reason[2])
    if word in ("gone", "file", "there", "folder", "full"):
        return word + " " + "".join("/" + name for name in reason[1])
    return word + " " + reason[1] if word == "snapshot" else word


class Shells(Case):
    def test_examples(self):
        self.examples(EXAMPLES, dict(vars(shell_module)))

    def test_beside_an_account(self):
        rng = Random(250)
        answered = {}
        for _ in seeds(0, 25):
            size, log = rng.choice(((24, 4), (30, 6), (60, 8)))
            shell, account = Shell(size, log), Account(size, log)
            for _ in range(40):
                kind = rng.randrange(16)
                volume = shell.volume
                before, tree = state_of_volume(volume), volume.tree
                if kind < 8:
                    deed = drawn_deed(rng, tree, tries=3)
                    reason = account.do(deed)
                    wanted = f"done {account.number - 1}" if reason is None else "refused " + slow_reason(reason)
                    self.same(shell.run(deed_text(deed)), wanted)
                    self.same(told_of(shell.volume), account.told())
                elif kind < 10:
                    word = rng.choice(("sync", "turn"))
                    self.same(shell.run(word), word + "ed" if word == "turn" else "synced")
                    account.sync() if word == "sync" else account.turn()
                    self.same(told_of(shell.volume), account.told())
                elif kind < 12:
                    word = rng.choice(("tree", "volume", "lots"))
                    wanted = {"tree": tree_text(tree), "volume": str(volume), "lots": str(len(lots_that_can_come(volume)))}[word]
                    self.same(shell.run(word), wanted)
                    self.assertEqual(state_of_volume(shell.volume), before)
                elif kind == 12:
                    told = (rng.randrange(2), rng.randrange(size), rng.randrange(4))
                    borne = volume.pair.is_borne(*told)
                    self.same(shell.run(f"lose {('one', 'other')[told[0]]} {told[1]} {told[2]}"), "lost" if borne else "not borne")
                    if not borne:
                        self.assertEqual(state_of_volume(shell.volume), before)
                elif kind == 13:
                    self.same(shell.run("mount"), "mounted")
                    self.assertTrue(shell.volume.pair is volume.pair)
                    account = Account(size, log, tree, account.number, account.turns + 1)
                    self.same(told_of(shell.volume), account.told())
                else:
                    cuts = (drawn_cut(rng, volume.pair.one), drawn_cut(rng, volume.pair.other))
                    if rng.randrange(3) == 0:
                        cuts = (cuts[0], {**cuts[1], (rng.randrange(size), 2): 9})
                        self.same(shell.run("cut " + cuts_text(cuts)), "no cut")
                        self.assertTrue(shell.volume is volume)
                        self.assertEqual(state_of_volume(shell.volume), before)
                        continue
                    lots, wanted = lots_of(volume, account.doings.start), meaning(volume.pair.behind(cuts[0], cuts[1]))
                    self.same(shell.run("cut " + cuts_text(cuts)), "mounted")
                    self.assertEqual(shell.volume.tree, wanted)
                    # Behind a cut there is a lot that has all that was synced; answers of "done" may be gone.
                    self.assertTrue(any(wanted == there for there in lots.values()))
                    account = Account(size, log, wanted, shell.volume.number, account.turns + 1)
                    self.same(told_of(shell.volume), account.told())
                self.assertEqual(meaning(shell.volume.pair), shell.volume.tree)
                answered[kind] = True
        self.same(len(answered), 16)

    def test_refusals(self):
        shell = Shell(24, 4)
        for line, answer in (("folder /a", "done 1"), ("folder /a", "refused there /a"), ("make /a/b", "done 2"), ("make /x/y", "refused gone /x"), ("folder /a/b/c", "refused file /a/b"),
                             ("drop /a", "refused full /a"), ("cut /a 0", "refused folder /a"), ("write /a/b 90 1 1 1 1 1 1 1", "refused long"), ("move /a /a/c", "refused ring"), ("unsnap s", "refused snapshot s"),
                             ("snap s", "done 3"), ("snap s", "refused snapshot s"), ("all drop /a/b ; drop /a ; drop /a", "refused all 2 gone /a"), ("all make /z ; write /z 96 1", "refused all 1 long"),
                             ("all cut /a 0 ; drop /a", "refused all 0 folder /a"), ("all make /q ; move /a /a/b/c", "refused all 1 file /a/b"), ("move /a /q", "done 4"), ("tree", "folder /q\nfile /q/b"), ("volume", "turn 1, 4 deeds, 0 synced")):
            self.same(shell.run(line), answer)
        self.same(shell.run("all " + " ; ".join(["write /q/b 0" + " 1" * 32] * 6)), "refused log")
        small = Shell(24, 4)
        self.same([small.run("make /" + name) for name in "abcde"], [f"done {at}" for at in range(1, 6)])
        self.same([small.run("link /a /f"), small.run("volume"), small.run("lots")], ["refused room", "turn 3, 0 deeds, 0 synced", "1"])

    def test_losses(self):
        shell = Shell(24, 4)
        for line, answer in (("lose one 1 0", "lost"), ("lose one 1 0", "not borne"), ("lose other 1 0", "not borne"), ("lose other 1 1", "lost"), ("lose one 24 0", "not borne"), ("lose one 1000000000 3", "not borne"),
                             ("lose other 23 3", "lost"), ("make /a", "done 1"), ("lose one 2 0", "not borne"), ("sync", "synced"), ("lose one 2 0", "lost"), ("tree", "file /a"), ("mount", "mounted"), ("tree", "file /a")):
            self.same(shell.run(line), answer)

    def test_cuts(self):
        shell = Shell(24, 4)
        for line, answer in (("make /a", "done 1"), ("make /b", "done 2"), ("cut one 2.0=0 2.1=0 2.2=0 2.3=0 3.0=0 3.1=0 other 3.2=0 3.3=0", "mounted"), ("tree", "file /a\nfile /b"), ("make /c", "done 3"),
                             ("cut one other", "mounted"), ("tree", "file /a\nfile /b"), ("make /c", "done 3"), ("cut one 2.0=1 other", "no cut"), ("cut one 30.0=0 other", "no cut"), ("cut one other 239.3=9999", "no cut"),
                             ("cut one 9.0=0 other", "no cut"), ("lots", "2"), ("sync", "synced"), ("cut one other", "mounted"), ("tree", "file /a\nfile /b\nfile /c"), ("volume", "turn 4, 0 deeds, 0 synced")):
            self.same(shell.run(line), answer)

    def test_lots(self):
        shell = Shell(200, 40)
        for at in range(13):
            shell.run("folder /" + "abcdefghijklm"[at])
            if at == 11:
                self.same(shell.run("lots"), "4096")
        state = state_of_volume(shell.volume)
        self.refuses(TooMany, 4096, lambda: shell.run("lots"))
        self.assertEqual(state_of_volume(shell.volume), state)
        self.same([shell.run("sync"), shell.run("lots")], ["synced", "1"])

    def test_lines_that_cannot_be_read(self):
        shell = Shell(24, 4)
        shell.run("make /a")
        state = state_of_volume(shell.volume)
        for line, where in (("", 0), (" ", 0), ("sync ", 1), (" sync", 0), ("sync sync", 1), ("turn 1", 1), ("mount one", 1), ("tree /a", 1), ("volume x", 1), ("lots 1", 1), ("Sync", 0), ("cut", 1), ("cut one", 2), ("cut other", 1),
                            ("cut one 5.1=0", 3), ("cut one other x", 3), ("cut one 240.0=0 other", 2), ("cut /a", 2), ("cut /a one", 2), ("cut /a 0 0", 3), ("lose", 1), ("lose one", 2), ("lose one 5", 3), ("lose both 5 0", 1),
                            ("lose one 5 4", 3), ("lose one 1000000001 0", 2), ("lose one 05 0", 2), ("lose one 5 0 0", 4), ("lose one -1 0", 2), ("make", 1), ("make /a/", 1), ("write /a 0", 3), ("order x", 1), ("all make /x", 3),
                            ("snap", 1), ("settle", 0), ("made", 0), ("one other", 0), ("make /x\nsync", 1), ("sync\n", 0), ("tree\t", 0)):
            self.refuses(ParseError, where, lambda: shell.run(line))
            self.assertEqual(state_of_volume(shell.volume), state)
        for value in anything():
            if not isinstance(value, str):
                self.refuses(ParseError, 0, lambda: shell.run(value))
        self.assertEqual(state_of_volume(shell.volume), state)

    def test_deeds_are_read_as_texts(self):
        rng = Random(251)
        shell = Shell(40, 4)
        for _ in range(150):
            words = deed_text(drawn_deed(rng, shell.volume.tree, tries=2)).split(" ")
            place = rng.randrange(len(words))
            words[place] = rng.choice((words[place], words[place], "/a", "x", "0", "one", ""))
            line = " ".join(words)
            where = slow_where(line)
            if words[:2] == ["cut", "one"]:
                continue
            if where is None:
                self.assertIn(shell.run(line).split(" ")[0], ("done", "refused"))
                self.same(deed_text(read_deed(line)), line)
            else:
                self.refuses(ParseError, where, lambda: shell.run(line))

    def test_not_true(self):
        # What was answered by "done" can be gone behind a cut.
        self.same(answers(24, 4, ("make /a", "cut one other", "tree")), ("done 1", "mounted", ""))


class Wrong(WrongCase):
    def test_shells(self):
        for value in anything() + [23, 241]:
            if not (type(value) is int and 24 <= value <= 240):
                self.refuses(InvalidNumber, value, lambda: Shell(value, None))
                self.refuses(InvalidNumber, value, lambda: answers(value, 99, ()))
            if not (type(value) is int and 4 <= value <= 40):
                self.refuses(InvalidNumber, value, lambda: Shell(30, value))
        self.refuses(TooMany, 7, lambda: Shell(24, 7))
        self.refuses(TooMany, 40, lambda: answers(57, 40, ()))
        self.same([Shell(58, 40).volume.log, Shell(240, 4).volume.pair.size], [40, 240])

    def test_answers(self):
        for value in anything() + [["tree"], "tree"]:
            if not isinstance(value, tuple):
                self.refuses(InvalidOperation, None, lambda: answers(None, None, value))
                self.refuses(InvalidOperation, None, lambda: answers(24, 4, value))
        self.same(answers(24, 4, ()), ())
        self.refuses(ParseError, 1, lambda: answers(24, 4, ("make /a", "make", "make /b")))
        self.refuses(ParseError, 0, lambda: answers(24, 4, ("make /a", None)))
        self.refuses(TooMany, 4096, lambda: answers(200, 40, tuple("folder /" + name for name in "abcdefghijklm") + ("lots", "x")))
        self.refuses(ParseError, 0, lambda: answers(24, 4, ("x", "lots")))

    def test_a_shell_is_not_iterated(self):
        shell = Shell(24, 4)
        self.assertIsInstance(raised(lambda: iter(shell)), TypeError)
        self.assertIsInstance(raised(lambda: setattr(shell, "volume", None)), AttributeError)
