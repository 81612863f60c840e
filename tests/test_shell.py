import unittest

from openlimit.desk.desk import Desk, StrictDesk
from openlimit.errors import (
    Broken, InvalidCommand, InvalidNumber, InvalidOperation, NothingToUndo, ParseError, TooLarge, UnknownName,
)
from openlimit.machines.needs import need
from openlimit.patterns.compiled import machine_of
from openlimit.patterns.patterns import Letter
from openlimit.patterns.rewriting import tidied
from openlimit.text.formats import machine_text
from openlimit.text.shell import Shell
from tests.helper import NOTHING, WRONG, least_seconds, slowness, some_patterns

A = Letter("a")
START = ("desk ab", "edit set p (a{n}b)*; set q (a|b)*; promise q p 2 0")
ALL_COMMANDS = """desk ab|strict ab|edit set p a|undo 0|redo 0|room 300|list|need p ab|tidy p|rate p q 2|status 0|broken
machine p""".replace("\n", "|").split("|")


def begun(*lines):
    """Return a shell with two patterns and a promise, behind these further commands."""
    shell = Shell()
    shell.run_all(*START, *lines)
    return shell


def told(shell):
    desk = shell.copied()
    state = None if desk is None else (type(desk), desk.alphabet, desk.patterns, desk.promises, desk.room)
    return state, len(shell), shell.log()


class CommandTests(unittest.TestCase):
    def test_each_command(self):
        shell = Shell()
        lines = [
            ("strict ab", "ok"), ("desk ab", "ok"), ("list", "-"), ("broken", "-"), ("edit set p (a{n}b)*; set q ((a|b)*|())", "ok"),
            ("list", "p = (a{n}b)*; q = ((a|b)*|())"), ("edit promise q p 2 0", "ok"), ("edit promise p q 0 -; promise p p 3 2", "ok"),
            ("list", "p = (a{n}b)*; q = ((a|b)*|()); q p 2 0; p q 0 -; p p 3 2"), ("status 0", "kept 0"), ("status 1", "never a"),
            ("status 2", "over 3"), ("broken", "1 2"), ("undo 1", "ok"), ("status 0", "kept 0"), ("redo 1", "ok"), ("undo 0", "ok"),
            ("need p aabab", "2"), ("need p aa", "none"), ("need p -", "0"), ("tidy q", "((a|b)*|())"), ("rate p p 7", "7"),
            ("rate q p 30", "0"), ("rate p q 0", "never a"), ("edit set r ((a|b)(a|b)*); set s (a*b)*", "ok"), ("rate r q 0", "never -"),
            ("rate p s 0", "grows"), ("edit promise p s 0 0; promise q p 1 -; promise r q 0 0", "ok"), ("status 3", "grows"),
            ("status 4", "kept"), ("status 5", "never -"), ("broken", "1 2 3 5"), ("edit set t ((a())|(a()))", "ok"), ("tidy t", "a"),
            ("machine t", "machine ab 3 starts 0 finals 1,2; 0 a +0 1; 0 a +0 2"), ("room 299", "ok"), ("machine p",
             "machine ab 3 starts 0 finals 0,2; 0 a =1 1; 0 b +0 2; 1 a +1 1; 1 b +0 2; 2 a =1 1; 2 b +0 2"),
            ("edit remove t; rename p abc; rewrite q turn - back; drop 0", "ok"), ("undo 5", "ok"), ("redo 2", "ok"),
        ]
        for line, result in lines:
            self.assertEqual(shell.run(line), result, line)
        self.assertEqual([len(shell), shell.log()], [len(lines), tuple(line for line, _ in lines)])
        self.assertEqual(shell.copied().room, 299)

    def test_against_the_desk(self):
        for seed, pattern in enumerate(some_patterns(50, 60, 5)):
            other = some_patterns(500 + seed, 1)[0]
            shell = Shell()
            shell.run_all("desk ab", f"edit set p {pattern}; set q {other}")
            desk = Desk("ab")
            desk.apply(("set", "p", pattern), ("set", "q", other))
            self.assertEqual(shell.copied(), desk)
            for word in ("", "a", "b", "ab", "aab", "abab"):
                least = need(machine_of(pattern, "ab"), word)
                self.assertEqual(shell.run(f"need p {word or '-'}"), "none" if least is None else str(least))
            self.assertEqual(shell.run("tidy p"), str(tidied(pattern)))
            self.assertEqual(shell.run("machine p"), machine_text(machine_of(pattern, "ab")).replace("\n", "; "))
            self.assertEqual(shell.run("list"), f"p = {pattern}; q = {other}")
            shell.run("edit promise p q 3 1")
            desk.apply(("promise", "p", "q", 3, 1))
            found = desk.status(0)
            if found[0] in ("kept", "over"):
                self.assertEqual(shell.run_all("status 0", "rate p q 3"), ("%s %d" % found, str(found[1])))
            else:
                text = "grows" if found[0] == "grows" else "never " + (found[1] or "-")
                self.assertEqual(shell.run_all("status 0", "rate p q 3"), (text, text))
            self.assertEqual(shell.run("broken"), "-" if found[0] == "kept" else "0")

    def test_strict_desks(self):
        shell = Shell()
        shell.run_all("strict ab", *START[1:])
        with self.assertRaises(Broken) as caught:
            shell.run("edit set q a")
        self.assertEqual(caught.exception.name, "q")
        self.assertEqual(shell.run("list"), "p = (a{n}b)*; q = (a|b)*; q p 2 0")
        self.assertEqual(shell.run_all("room 1", "undo 1", "redo 1", "list")[-1][:1], "p")
        self.assertRaises(TooLarge, shell.run, "edit set z a")
        copied = shell.copied()
        self.assertIs(type(copied), StrictDesk)
        self.assertEqual([copied.room, len(copied), len(copied.promises)], [1, 2, 1])


class ErrorTests(unittest.TestCase):
    def check_raises(self, error, shell, line, value=None):
        before = told(shell)
        with self.assertRaises(error) as caught:
            shell.run(line)
        self.assertIs(type(caught.exception), error, line)
        if value is not None:
            self.assertEqual(list(vars(caught.exception).values()), [value])
        self.assertEqual(told(shell), before)

    def test_no_commands(self):
        for shell in (Shell(), begun()):
            for line in WRONG + NOTHING + [("list",), ["list"], b"list", 0, "", " ", "List", "lists", "help", "p = a"]:
                self.check_raises(InvalidCommand, shell, line)
            for line in ALL_COMMANDS:
                wrong = [" " + line, line + " ", line.upper(), line + " p", "\n" + line, line.split(" ")[0] + "\n" + line]
                if len(line.split(" ")) > 1:
                    wrong += [line.replace(" ", "  ", 1), line.replace(" ", "\n", 1), line.rpartition(" ")[0]]
                for other in wrong:
                    if not other.startswith("edit "):
                        self.check_raises(InvalidCommand, shell, other)
            self.check_raises(InvalidCommand, shell, "edit")

    def test_no_desk(self):
        shell = Shell()
        for line in ALL_COMMANDS[2:] + ["edit ", "need P a", "status x", "room ", "edit nothing", "undo 01"]:
            self.check_raises(InvalidCommand, shell, line)
        self.assertEqual(shell.run("desk ab"), "ok")
        self.check_raises(ParseError, shell, "need P a")

    def test_wrong_alphabets(self):
        for shell in (Shell(), begun()):
            for alphabet in ("", "ba", "abcde", "aa", "A", "a\n", "a,b", "-"):
                self.check_raises(ParseError, shell, f"desk {alphabet}")
                self.check_raises(ParseError, shell, f"strict {alphabet}")

    def test_wrong_numbers(self):
        shell = begun()
        wrong = ["", "-", "-1", "+1", "01", "00", "1.0", "x", "1\n", "0x1", "1_0", "\u0661", "9" * 41, "0" * 40, "1" * 6000]
        for number in wrong:
            for line in ("undo", "redo", "room", "status", "rate p q"):
                self.check_raises(ParseError, shell, f"{line} {number}")
        great = 10 ** 40 - 1
        self.check_raises(NothingToUndo, shell, f"undo {great}", great)
        self.check_raises(NothingToUndo, shell, f"redo {great}", great)
        self.check_raises(InvalidNumber, shell, f"room {great}", great)
        self.check_raises(InvalidNumber, shell, f"status {great}", great)
        self.check_raises(InvalidNumber, shell, f"rate p q {great}", great)
        self.check_raises(InvalidNumber, shell, "room 0", 0)
        self.check_raises(InvalidNumber, shell, "room 301", 301)
        self.check_raises(InvalidNumber, shell, "status 1", 1)
        self.check_raises(InvalidNumber, shell, "rate p q 31", 31)

    def test_wrong_names_and_words(self):
        shell = begun()
        for name in ("", "P", "ninechars", "p1", "-", "p\n", "p;"):
            for line in ("need {} a", "tidy {}", "machine {}", "rate {} p 0", "rate p {} 0"):
                self.check_raises(ParseError, shell, line.format(name))
        for line in ("need x a", "tidy x", "machine x", "rate x p 0", "rate p x 0"):
            self.check_raises(UnknownName, shell, line, "x")
        for word in ("", "c", "aB", "a-", "--", "a\n", "a" * 201, "1"):
            self.check_raises(ParseError, shell, f"need p {word}")
        self.assertEqual(shell.run("need p " + "a" * 199 + "b"), "199")
        self.assertEqual(shell.run("need p " + "a" * 200), "none")

    def test_first_wrong_part(self):
        shell = begun()
        # A part that is not as it must be goes ahead of all that the command finds.
        self.check_raises(ParseError, shell, "need x c")
        self.check_raises(ParseError, shell, "rate x y 00")
        self.check_raises(ParseError, shell, "rate x Y 0")
        self.check_raises(UnknownName, shell, "rate x y 31", "x")
        self.check_raises(UnknownName, shell, "rate p y 31", "y")
        self.check_raises(ParseError, shell, "edit remove x; remove Y")

    def test_wrong_edits(self):
        shell = begun()
        for edits in ("", " ", "nothing", "set p", "set p a;", "set p a;remove q", "set p a;  remove q", "; set p a", "set p a; ",
                      "set p a ; remove q", "set p a,b", "drop 00", "promise p q 31 -", "rewrite p none -"):
            self.check_raises(ParseError, shell, f"edit {edits}")
        self.check_raises(UnknownName, shell, "edit set z a; remove x", "x")
        self.check_raises(InvalidOperation, shell, "edit set z a; set z c")
        self.check_raises(InvalidOperation, shell, "edit remove p")
        self.check_raises(InvalidNumber, shell, "edit drop 1", 1)
        self.check_raises(InvalidOperation, shell, "edit rewrite q once -")
        self.assertEqual(shell.run("edit set z a; set z b; remove z"), "ok")

    def test_errors_of_calls(self):
        shell = begun("room 1")
        self.check_raises(TooLarge, shell, "status 0", 1)
        self.check_raises(TooLarge, shell, "broken", 1)
        self.check_raises(TooLarge, shell, "rate p p 0", 1)
        self.assertEqual(shell.run_all("rate p q 5", "room 300", "rate p p 5"), ("never a", "ok", "5"))
        shell.run("edit set s a{n}; set r ((aa)|a){n}")
        self.check_raises(TooLarge, shell, "rate s r 16", 30)


class LogTests(unittest.TestCase):
    def test_log(self):
        shell = Shell()
        self.assertEqual([len(shell), shell.log(), shell.copied()], [0, (), None])
        self.assertRaises(InvalidCommand, shell.run, "list")
        self.assertEqual([len(shell), shell.log(), shell.copied()], [0, (), None])
        shell.run_all(*START)
        log = shell.log()
        self.assertRaises(UnknownName, shell.run, "tidy x")
        self.assertEqual([len(shell), log], [2, START])
        shell.run("desk abc")
        self.assertEqual([len(shell), shell.log(), log], [3, (*START, "desk abc"), START])
        self.assertEqual(shell.copied(), Desk("abc"))
        self.assertRaises(NothingToUndo, shell.run, "undo 1")

    def test_lines_ahead_of_an_error_stay(self):
        shell = Shell()
        with self.assertRaises(UnknownName):
            shell.run_all(*START, "edit set z a", "tidy x", "edit remove z")
        self.assertEqual([len(shell), shell.run("list")], [3, "p = (a{n}b)*; q = (a|b)*; z = a; q p 2 0"])
        self.assertEqual(shell.run_all(), ())

    def test_copies_are_independent(self):
        for kind in ("desk", "strict"):
            shell = Shell()
            shell.run_all(f"{kind} ab", START[1], "room 77")
            desk = shell.copied()
            self.assertEqual([desk.room, desk.promises, str(desk["p"])], [77, (("q", "p", 2, 0),), "(a{n}b)*"])
            desk.room = 300
            desk.apply(("set", "z", A))
            self.assertEqual(shell.run("list"), "p = (a{n}b)*; q = (a|b)*; q p 2 0")
            shell.run("edit set y b")
            self.assertEqual([list(desk.patterns), shell.copied().room], [["p", "q", "z"], 77])
            self.assertEqual(shell.copied() == shell.copied(), True)

    def test_calls_are_fast(self):
        shell = begun()
        limit = 0.3 * slowness()
        self.assertLess(least_seconds(lambda: [shell.run("need p aabab") for _ in range(2000)], 3), limit)
        self.assertLess(least_seconds(lambda: [shell.run("status 0") for _ in range(200)], 3), limit)


if __name__ == "__main__":
    unittest.main()
