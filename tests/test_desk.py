import random
import unittest

from openlimit.desk.desk import Desk, StrictDesk
from openlimit.errors import (
    Broken, InvalidMachine, InvalidNumber, InvalidOperation, InvalidPattern, InvalidWord, NothingToUndo, TooLarge,
    UnknownName,
)
from openlimit.patterns.compiled import machine_of
from openlimit.patterns.patterns import Letter
from openlimit.verdicts.bounds import rate
from openlimit.verdicts.verdicts import is_bounded, verdict
from tests.helper import NO_PATTERNS, NOTHING, WRONG, least_seconds, slowness, some_patterns

A, B, C = [Letter(sign) for sign in "abc"]
BLOCKS = ~(A.upto() + B)
ANY = ~(A | B)
NO_NAMES = WRONG + NOTHING + ["", "ninechars", "P", "p1", "p q", ("p",), A, 0]
NO_NUMBERS = [True, False, None, -1, -(10 ** 39), "1", (), [0], {}, (1,), A]
KINDS = (Desk, StrictDesk)


def filled(kind=Desk):
    """Return a desk with three patterns and two promises that are kept."""
    desk = kind("ab")
    desk.apply(("set", "q", ANY), ("set", "p", BLOCKS))
    desk.apply(("set", "r", (A + A | A).upto()), ("promise", "p", "p", 2, 2), ("promise", "q", "p", 1, None))
    return desk


def told(desk):
    """Return all that a desk tells."""
    return desk.alphabet, desk.patterns, desk.promises, desk.room, desk.log(), len(desk), str(desk)


class EditTests(unittest.TestCase):
    def check_raises(self, error, value, desk, *edits):
        """The error is raised alone, and behind a good edit; nothing changes."""
        for ahead in ((), (("set", "good", A),)):
            before = told(desk)
            with self.assertRaises(error) as caught:
                desk.apply(*ahead, *edits)
            self.assertIs(type(caught.exception), error)
            if error is InvalidNumber:
                self.assertIs(caught.exception.value, value)
            elif error is UnknownName:
                self.assertIs(caught.exception.name, value)
            elif error is TooLarge:
                self.assertEqual(caught.exception.limit, value)
            self.assertEqual(told(desk), before)
            self.assertRaises(NothingToUndo, desk.redo)

    def test_good_edits(self):
        for kind in KINDS:
            desk = kind("ab")
            self.assertEqual(desk.apply(), 0)
            self.assertEqual(desk.apply(("set", "p", BLOCKS)), 1)
            self.assertEqual(desk.apply(("set", "q", ANY), ("set", "p", ~A), ("set", "p", BLOCKS)), 2)
            self.assertEqual(desk.patterns, {"p": BLOCKS, "q": ANY})
            self.assertEqual(desk.apply(("promise", "q", "p", 0, None), ("promise", "p", "p", 30, 30)), 3)
            self.assertEqual(desk.promises, (("q", "p", 0, None), ("p", "p", 30, 30)))
            self.assertEqual(desk.apply(("rename", "p", "abcdefgh")), 4)
            self.assertEqual(desk.promises, (("q", "abcdefgh", 0, None), ("abcdefgh", "abcdefgh", 30, 30)))
            self.assertEqual(list(desk.patterns.items()), [("abcdefgh", BLOCKS), ("q", ANY)])
            self.assertEqual(desk.apply(("drop", 0), ("remove", "q")), 5)
            self.assertEqual([desk.patterns, desk.promises], [{"abcdefgh": BLOCKS}, (("abcdefgh", "abcdefgh", 30, 30),)])
            self.assertEqual(desk.apply(("rewrite", "abcdefgh", "unfold", (), False)), 6)
            self.assertEqual(str(desk["abcdefgh"]), "(()|((a{n}b)(a{n}b)*))")
            self.assertEqual(desk.apply(("rewrite", "abcdefgh", "unfold", (), True)), 7)
            self.assertEqual(desk["abcdefgh"], BLOCKS)
            self.assertEqual(desk.apply(), 7)

    def test_forms(self):
        desk = filled()
        good = [
            ("set", "p", A), ("remove", "r"), ("rename", "r", "s"), ("rewrite", "q", "unfold", (), False),
            ("promise", "p", "q", 1, None), ("drop", 0),
        ]
        wrong = [(), ("put", "p"), ("SET", "p", A), (["set"], "p", A), (0, "p"), (A, "p"), (None,), ({}, 0)]
        for edit in good:
            wrong += [list(edit), edit[:-1], edit + (0,), edit[:1], (edit,), edit[0]]
        for edit in wrong + WRONG + NOTHING:
            self.check_raises(InvalidOperation, None, desk, edit)
        for edit in good:
            desk.apply(edit)
            desk.undo()

    def test_errors_of_set(self):
        desk = filled()
        for name in NO_NAMES:
            self.check_raises(InvalidOperation, None, desk, ("set", name, None))
        for wrong in NO_PATTERNS:
            self.check_raises(InvalidPattern, None, desk, ("set", "p", wrong))
        self.check_raises(InvalidOperation, None, desk, ("set", "p", A + C))
        names = "abcdefghijkl"
        full = Desk("ab")
        full.apply(*[("set", name, A) for name in names[:11]])
        full.apply(("set", "l", B))
        self.assertEqual(len(full), 12)
        with self.assertRaises(TooLarge) as caught:
            full.apply(("set", "m", A))
        self.assertEqual(caught.exception.limit, 12)
        self.assertRaises(InvalidOperation, full.apply, ("set", "m", C))
        full.apply(("set", "l", A), ("rename", "l", "m"))
        self.assertEqual(len(full), 12)

    def test_errors_of_remove_and_rename(self):
        desk = filled()
        for name in NO_NAMES + ["x"]:
            self.check_raises(UnknownName, name, desk, ("remove", name))
            self.check_raises(UnknownName, name, desk, ("rename", name, None))
        for name in ("p", "q"):
            self.check_raises(InvalidOperation, None, desk, ("remove", name))
        for name in NO_NAMES + ["q", "p"]:
            self.check_raises(InvalidOperation, None, desk, ("rename", "p", name))
        desk.apply(("drop", 0), ("drop", 0), ("remove", "p"))
        self.assertEqual(list(desk.patterns), ["q", "r"])

    def test_errors_of_rewrite(self):
        desk = filled()
        for name in NO_NAMES + ["x"]:
            self.check_raises(UnknownName, name, desk, ("rewrite", name, None, None, None))
        for rule in WRONG + NOTHING + ["x"]:
            self.check_raises(UnknownName, rule, desk, ("rewrite", "q", rule, None, None))
        for path in (None, [], (1,), (True,), (0, 2)):
            self.check_raises(InvalidOperation, None, desk, ("rewrite", "q", "unfold", path, False))
        for back in (None, 0, 1, "back"):
            self.check_raises(InvalidOperation, None, desk, ("rewrite", "q", "unfold", (), back))
        self.check_raises(InvalidOperation, None, desk, ("rewrite", "q", "unfold", (), True))
        desk.apply(("set", "r", (A + B) + (A + B)))
        self.check_raises(TooLarge, 7, desk, ("rewrite", "r", "once", (), True))

    def test_errors_of_promise_and_drop(self):
        desk = filled()
        for name in NO_NAMES + ["x"]:
            self.check_raises(UnknownName, name, desk, ("promise", name, "x", None, ""))
            self.check_raises(UnknownName, name, desk, ("promise", "p", name, None, ""))
        for cap in NO_NUMBERS + [31]:
            self.check_raises(InvalidNumber, cap, desk, ("promise", "p", "p", cap, ""))
            self.check_raises(InvalidNumber, cap, desk, ("promise", "p", "p", cap, None))
        for top in [True, False, -1, 31, "", "1", (), [0], {}, A]:
            self.check_raises(InvalidNumber, top, desk, ("promise", "p", "p", 0, top))
        for index in NO_NUMBERS + [2, 10 ** 39]:
            self.check_raises(InvalidNumber, index, desk, ("drop", index))
        desk.apply(*[("promise", "p", "p", number, None) for number in range(10)])
        self.check_raises(TooLarge, 12, desk, ("promise", "p", "p", 0, None))
        self.check_raises(InvalidNumber, 31, desk, ("promise", "p", "p", 0, 31))
        desk.apply(("drop", 11), ("promise", "q", "p", 30, 30))
        self.assertEqual([len(desk.promises), desk.promises[-1]], [12, ("q", "p", 30, 30)])


class GroupTests(unittest.TestCase):
    def test_undo_and_redo(self):
        for kind in KINDS:
            desk = filled(kind)
            before = told(desk)
            self.assertEqual([desk.undo(many=0), desk.redo(many=0), told(desk) == before], [2, 2, True])
            self.assertEqual([desk.undo(), len(desk), desk.promises], [1, 2, ()])
            self.assertEqual([desk.redo(), told(desk) == before], [2, True])
            self.assertEqual([desk.undo(many=2), len(desk), desk.log()], [0, 0, ()])
            with self.assertRaises(NothingToUndo) as caught:
                desk.undo(many=1)
            self.assertEqual(caught.exception.many, 1)
            self.assertEqual([desk.redo(), desk.redo(), told(desk) == before], [1, 2, True])
            desk.undo(many=2)
            self.assertEqual([desk.redo(many=2), told(desk) == before], [2, True])
            for call in (desk.undo, desk.redo):
                for many in NO_NUMBERS:
                    with self.assertRaises(InvalidNumber) as caught:
                        call(many=many)
                    self.assertIs(caught.exception.value, many)
                for many in (3, 10 ** 39):
                    with self.assertRaises(NothingToUndo) as caught:
                        call(many=many)
                    self.assertEqual(caught.exception.many, many)
            self.assertEqual(told(desk), before)

    def test_new_groups_end_redo(self):
        desk = filled()
        desk.undo()
        self.assertEqual(desk.apply(), 1)
        self.assertEqual(desk.redo(), 2)
        desk.undo()
        self.assertRaises(UnknownName, desk.apply, ("remove", "x"))
        self.assertEqual(desk.redo(), 2)
        desk.undo()
        self.assertEqual(desk.apply(("set", "z", A)), 2)
        self.assertRaises(NothingToUndo, desk.redo)
        self.assertEqual(desk.log(), ((("set", "q", ANY), ("set", "p", BLOCKS)), (("set", "z", A),)))

    def test_long_histories(self):
        """A desk tells what a new desk with the groups in effect tells."""
        draw = random.Random(5)
        patterns = some_patterns(30, 12)
        for kind in KINDS:
            desk, ahead = kind("ab"), []
            for _ in range(250):
                many = draw.randrange(3)
                act = draw.randrange(4)
                if act == 0 and many <= len(desk.log()):
                    ahead = list(desk.log()[len(desk.log()) - many:]) + ahead
                    desk.undo(many=many)
                elif act == 1 and many <= len(ahead):
                    ahead = ahead[many:]
                    desk.redo(many=many)
                elif act > 1:
                    edits = [
                        ("set", draw.choice("pqr"), draw.choice(patterns)), ("remove", draw.choice("pqr")),
                        ("rename", draw.choice("pqr"), draw.choice("pqr")), ("drop", 0),
                        ("promise", draw.choice("pqr"), draw.choice("pqr"), draw.randrange(3), None),
                    ]
                    group = tuple(draw.sample(edits, draw.randint(1, 2)))
                    before = told(desk)
                    try:
                        desk.apply(*group)
                        ahead = []
                    except (InvalidOperation, UnknownName, InvalidNumber, TooLarge, Broken):
                        self.assertEqual(told(desk), before)
                other = Desk("ab")
                for group in desk.log():
                    other.apply(*group)
                self.assertEqual(told(desk), told(other))
                self.assertEqual(desk, other)

    def test_what_is_returned_stays(self):
        for kind in KINDS:
            desk = filled(kind)
            patterns, promises, log = desk.patterns, desk.promises, desk.log()
            patterns["z"] = A
            del patterns["p"]
            self.assertEqual([list(desk.patterns), "z" in desk, len(desk)], [["p", "q", "r"], False, 3])
            desk.undo()
            self.assertEqual([len(promises), len(log)], [2, 2])


class TrialTests(unittest.TestCase):
    def test_what_it_does(self):
        for kind in KINDS:
            desk = filled(kind)
            desk.apply(("set", "z", A))
            desk.undo()
            before = told(desk)
            seen = []

            def call(given):
                seen.append([given is desk, given.log()[-1], str(given["p"]), given.apply(("set", "y", B))])
                self.assertRaises(NothingToUndo, given.redo)
                return ("result", given.undo(many=2), given.redo())

            self.assertEqual(desk.trial((("rewrite", "p", "unfold", (), False),), call), ("result", 2, 3))
            self.assertEqual(seen, [[True, (("rewrite", "p", "unfold", (), False),), "(()|((a{n}b)(a{n}b)*))", 4]])
            self.assertEqual(told(desk), before)
            self.assertEqual(desk.redo(), 3)
            self.assertIn("z", desk)

    def test_groups_from_before(self):
        for kind in KINDS:
            desk = filled(kind)
            desk.apply(("set", "y", A))
            desk.apply(("set", "z", A))
            desk.undo(many=2)

            def call(given):
                for many in (1, 2, 10 ** 30):
                    with self.assertRaises(NothingToUndo) as caught:
                        given.undo(many=many)
                    self.assertEqual(caught.exception.many, many)
                self.assertEqual([given.redo(), given.redo(), given.undo(many=2), given.redo()], [3, 4, 2, 3])
                self.assertRaises(NothingToUndo, given.undo, many=2)
                self.assertEqual([given.apply(("set", "x", A)), given.undo(many=2)], [4, 2])
                self.assertRaises(NothingToUndo, given.undo)
                return given.redo(many=2)

            self.assertEqual(desk.trial((), call), 4)
            self.assertEqual([len(desk.log()), desk.redo(many=2)], [2, 4])
            self.assertEqual(list(desk.patterns), ["p", "q", "r", "y", "z"])
            self.assertEqual(desk.undo(many=4), 0)

    def test_errors(self):
        for kind in KINDS:
            desk = filled(kind)
            desk.undo()
            before = told(desk)

            def never(given):
                raise AssertionError("not to be called")

            for wrong in ([], None, "", [("set", "z", A)], {}, 0, True):
                self.assertRaises(InvalidOperation, desk.trial, wrong, never)
            self.assertRaises(UnknownName, desk.trial, (("set", "z", A), ("remove", "x")), never)
            self.assertRaises(InvalidOperation, desk.trial, (None,), never)

            def fails(given):
                given.apply(("set", "q", A))
                given.undo(many=2)
                raise KeyError("own")

            self.assertRaises(KeyError, desk.trial, (("set", "z", A),), fails)
            self.assertRaises(ZeroDivisionError, desk.trial, (), lambda given: 1 // 0)
            self.assertEqual(told(desk), before)
            self.assertEqual(desk.redo(), 2)
            self.assertEqual(desk.undo(many=2), 0)

    def test_trials_within_trials(self):
        for kind in KINDS:
            desk = filled(kind)
            before = told(desk)

            def inner(given):
                self.assertRaises(NothingToUndo, given.undo, many=2)
                given.undo()
                self.assertRaises(NothingToUndo, given.undo)
                self.assertEqual(given.redo(), 4)
                return list(given.patterns)

            def outer(given):
                self.assertEqual(given.trial((("set", "y", A),), inner), ["p", "q", "r", "y", "z"])
                self.assertEqual(list(given.patterns), ["p", "q", "r", "z"])
                self.assertRaises(NothingToUndo, given.redo)
                self.assertRaises(ZeroDivisionError, given.trial, (("set", "y", A),), lambda last: 1 // 0)
                self.assertEqual([given.undo(), given.redo()], [2, 3])
                given.undo()
                self.assertRaises(NothingToUndo, given.undo)
                given.room = 17
                return "done"

            self.assertEqual(desk.trial((("set", "z", A),), outer), "done")
            self.assertEqual(desk.room, 17)
            desk.set_room(300)
            self.assertEqual(told(desk), before)
            self.assertEqual(desk.undo(many=2), 0)


class StatusTests(unittest.TestCase):
    def test_kinds(self):
        desk = Desk("ab")
        desk.apply(
            ("set", "p", BLOCKS), ("set", "q", ~A + ~B), ("set", "r", (A + A | A).upto()), ("set", "s", A.upto()),
            ("set", "t", ~A), ("promise", "q", "p", 1, 0), ("promise", "r", "s", 5, 3), ("promise", "r", "s", 5, 2),
            ("promise", "s", "t", 4, None), ("promise", "r", "s", 5, None), ("promise", "s", "t", 4, 30),
        )
        found = [desk.status(index) for index in range(6)]
        self.assertEqual(found[:3], [("never", "bab"), ("kept", 3), ("over", 3)])
        self.assertEqual([found[3][0], found[4], found[5][0]], ["grows", ("kept", None), "grows"])
        self.assertEqual(list(desk.broken()), [(index, found[index]) for index in (0, 2, 3, 5)])
        for index in NO_NUMBERS + [6, 10 ** 39]:
            with self.assertRaises(InvalidNumber) as caught:
                desk.status(index)
            self.assertIs(caught.exception.value, index)
        self.assertEqual(list(Desk("a").broken()), [])

    def test_against_machines(self):
        patterns = some_patterns(31, 8, 3)
        desk = Desk("abc")
        desk.apply(*[("set", name, pattern) for name, pattern in zip("abcdefgh", patterns)])
        for one, first in zip("abcdefgh", patterns):
            for other, second in zip("abcdefgh", patterns):
                desk.apply(("promise", one, other, 2, 1), ("promise", one, other, 2, None))
                machines = machine_of(first, "abc"), machine_of(second, "abc")
                if is_bounded(*machines):
                    number = rate(*machines, 2)
                    told = [("kept" if number <= 1 else "over", number), ("kept", None)]
                else:
                    told = [verdict(*machines)] * 2
                self.assertEqual([desk.status(0), desk.status(1)], told)
                self.assertEqual(list(desk.broken()), [(k, found) for k, found in enumerate(told) if found[0] != "kept"])
                desk.undo()

    def test_room(self):
        for kind in KINDS:
            desk = filled(kind)
            self.assertEqual(desk.room, 300)
            self.assertIsNone(desk.set_room(1))
            self.assertEqual(desk.room, 1)
            with self.assertRaises(TooLarge) as caught:
                desk.status(0)
            self.assertEqual(caught.exception.limit, 1)
            desk.room = 300
            self.assertEqual(desk.status(0), ("kept", 2))
            for wrong in NO_NUMBERS + [0, 301]:
                with self.assertRaises(InvalidNumber) as caught:
                    desk.set_room(wrong)
                self.assertIs(caught.exception.value, wrong)
                self.assertRaises(InvalidNumber, setattr, desk, "room", wrong)
            self.assertEqual([desk.room, len(desk.log())], [300, 2])

    def test_errors_when_they_are_reached(self):
        desk = Desk("ab")
        wide = ~(A.upto() + B + (A | B).upto())
        desk.apply(("set", "p", A), ("set", "q", B), ("set", "w", wide), ("promise", "p", "q", 0, 0), ("promise", "w", "w", 0, 5))
        desk.room = 3
        stream = desk.broken()
        self.assertEqual(next(stream), (0, ("never", "b")))
        self.assertRaises(TooLarge, next, stream)

    def test_broken_while_the_desk_goes_on(self):
        desk = filled()
        desk.apply(("set", "one", A), ("set", "two", B), ("promise", "one", "two", 0, 0), ("promise", "two", "one", 0, 0))
        told = list(desk.broken())
        self.assertEqual([index for index, _ in told], [2, 3])
        stream = desk.broken()
        late = desk.broken()
        self.assertEqual(next(stream), told[0])
        desk.room = 1
        desk.undo(many=3)
        self.assertEqual(list(stream), told[1:])
        self.assertEqual(list(late), [])

    def test_great_rates(self):
        desk = Desk("a")
        desk.apply(("set", "p", (A + A).upto()), ("set", "q", A.upto()), ("set", "r", (A + A | A).upto()))
        desk.apply(("promise", "q", "r", 15, 30), ("promise", "q", "r", 16, 30))
        self.assertEqual(desk.status(0), ("kept", 30))
        with self.assertRaises(TooLarge) as caught:
            desk.status(1)
        self.assertEqual(caught.exception.limit, 30)
        stream = desk.broken()
        self.assertRaises(TooLarge, next, stream)


class ValueTests(unittest.TestCase):
    def test_alphabets(self):
        for kind in KINDS:
            for wrong in WRONG + NOTHING + ["", "ba", "abcde", "aa", ("a",)]:
                self.assertRaises(InvalidMachine, kind, wrong)
            desk = kind("adz")
            self.assertEqual(told(desk), ("adz", {}, (), 300, (), 0, "desk of adz: 0 patterns, 0 promises"))

    def test_patterns_by_name(self):
        for kind in KINDS:
            desk = filled(kind)
            self.assertEqual([desk["p"], desk("p", "aabab"), desk("p", "a"), desk("q", "zz")], [BLOCKS, 2, None, None])
            for name in NO_NAMES + ["x"]:
                for call in (lambda: desk[name], lambda: desk(name, None)):
                    with self.assertRaises(UnknownName) as caught:
                        call()
                    self.assertIs(caught.exception.name, name)
                self.assertIs(name in desk, False)
            for wrong in WRONG + NOTHING + ["a" * 201]:
                self.assertRaises(InvalidWord, desk, "p", wrong)
            self.assertIs("p" in desk, True)
            self.assertRaises(TypeError, iter, desk)
            self.assertRaises(TypeError, hash, desk)
            for name in ("alphabet", "patterns", "promises"):
                self.assertRaises(AttributeError, setattr, desk, name, None)

    def test_equality_and_text(self):
        desk, strict = filled(), filled(StrictDesk)
        self.assertEqual(str(desk), "desk of ab: 3 patterns, 2 promises")
        self.assertEqual(str(strict), str(desk))
        self.assertTrue(desk == strict and strict == desk)
        strict.room = 5
        self.assertTrue(desk == strict and strict == desk)
        for edit in (("set", "p", A), ("set", "z", A), ("rename", "r", "z"), ("drop", 1), ("promise", "p", "p", 0, 0)):
            desk.apply(edit)
            self.assertFalse(desk == strict or strict == desk)
            desk.undo()
        self.assertEqual(desk, strict)
        self.assertNotEqual(Desk("ab"), Desk("a"))
        for wrong in WRONG + NOTHING + [A, "ab", ("ab", {}, ())]:
            for one in (desk, strict):
                self.assertIs(one == wrong, False)
                self.assertIs(wrong == one, False)
        swapped = Desk("ab")
        swapped.apply(("set", "p", BLOCKS), ("set", "q", ANY))
        desk.undo()
        self.assertEqual(swapped, desk)

    def test_each_method_stands_in_its_class(self):
        names = """apply undo redo trial status room set_room alphabet patterns promises log __getitem__ __call__
            __contains__ __len__ __eq__ __str__""".split()
        for kind in KINDS:
            self.assertEqual([name for name in names if name not in vars(kind)], [])
        self.assertTrue(issubclass(StrictDesk, Desk))
        self.assertIn("broken", vars(Desk))


class StrictTests(unittest.TestCase):
    def check_broken(self, desk, name, *edits):
        before = told(desk)
        for call in (desk.apply, lambda *group: desk.trial(group, lambda given: 1 // 0)):
            with self.assertRaises(Broken) as caught:
                call(*edits)
            self.assertEqual(caught.exception.name, name)
            self.assertEqual(told(desk), before)

    def test_broken_promises(self):
        desk = filled(StrictDesk)
        desk.apply(("set", "s", A.upto()), ("promise", "r", "s", 5, 3))
        self.check_broken(desk, "r", ("set", "s", ~A))
        self.check_broken(desk, "r", ("set", "z", A), ("promise", "r", "s", 5, 2))
        self.check_broken(desk, "q", ("set", "q", A))
        self.check_broken(desk, "q", ("set", "q", A), ("promise", "r", "s", 5, 2))
        self.check_broken(desk, "r", ("drop", 1), ("set", "q", A), ("promise", "r", "s", 5, 2))
        # Only what the whole group leaves behind counts.
        self.assertEqual(desk.apply(("set", "q", A), ("set", "q", ANY)), 4)
        self.assertEqual(desk.apply(("drop", 1), ("set", "q", A)), 5)
        self.assertEqual(list(desk.broken()), [])

    def test_errors_of_edits_come_first(self):
        desk = filled(StrictDesk)
        desk.room = 1
        self.assertRaises(UnknownName, desk.apply, ("set", "q", A), ("remove", "x"))
        self.assertRaises(InvalidOperation, desk.apply, ("set", "q", A), None)
        with self.assertRaises(TooLarge) as caught:
            desk.apply(("set", "z", A))
        self.assertEqual(caught.exception.limit, 1)
        self.assertRaises(TooLarge, desk.trial, (("set", "z", A),), lambda given: 1 // 0)
        self.assertEqual(desk.trial((), lambda given: 5), 5)
        self.assertEqual(desk.apply(), 2)
        desk.room = 300
        self.assertEqual(desk.apply(("set", "z", A)), 3)

    def test_never_words_need_no_room(self):
        desk = filled(StrictDesk)
        desk.apply(("drop", 0))
        desk.room = 1
        self.check_broken(desk, "q", ("set", "q", A))

    def test_undo_redo_and_trials(self):
        desk = filled(StrictDesk)
        desk.apply(("rewrite", "p", "unfold", (), False))
        desk.room = 1
        self.assertEqual([desk.undo(many=3), desk.redo(many=3)], [0, 3])
        desk.room = 300

        def call(given):
            self.assertRaises(Broken, given.apply, ("set", "q", A))
            return [given.apply(("set", "q", A | ANY)), given.undo(), list(given.broken())]

        self.assertEqual(desk.trial((("drop", 0),), call), [5, 4, []])
        self.assertEqual(len(desk.promises), 2)

    def test_great_rates(self):
        desk = StrictDesk("a")
        desk.apply(("set", "q", A.upto()), ("set", "r", (A + A | A).upto()), ("promise", "q", "r", 15, 30))
        with self.assertRaises(TooLarge) as caught:
            desk.apply(("promise", "q", "r", 16, 30))
        self.assertEqual(caught.exception.limit, 30)
        self.assertEqual(desk.apply(("promise", "q", "r", 16, None)), 2)


class CopyTests(unittest.TestCase):
    def test_copies(self):
        for kind in KINDS:
            desk = filled(kind)
            desk.room = 7
            other = desk.copied()
            self.assertIs(type(other), kind)
            self.assertEqual([other == desk, other.room], [True, 7])
            other.room = 300
            other.apply(("set", "z", A))
            self.assertEqual([desk.room, "z" in desk], [7, False])
            desk.undo()
            self.assertEqual(len(other), 4)

    def test_calls_are_fast(self):
        desk = filled()
        strict = filled(StrictDesk)
        limit = 0.4 * slowness()
        self.assertLess(least_seconds(lambda: [desk.status(0) for _ in range(200)], 3), limit)
        self.assertLess(least_seconds(lambda: [strict.trial((("set", "r", A),), str) for _ in range(100)], 3), limit)
        self.assertLess(least_seconds(lambda: [desk("p", "aabab") for _ in range(5000)], 3), limit)


if __name__ == "__main__":
    unittest.main()
