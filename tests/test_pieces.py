import unittest

from openlimit.errors import InvalidMachine, InvalidOperation, InvalidWord, TooLarge
from openlimit.machines.machines import is_meter, machine_from, make_machine, plain_of
from openlimit.machines.needs import need
from openlimit.tables.recipes import pump_recipe, word_recipe
from openlimit.verdicts.bounds import bound_paper, is_bound_paper
from openlimit.verdicts.pieces import best_cutting, is_cutting, is_power_paper, piece_machine, power_paper
from openlimit.verdicts.verdicts import is_verdict
from tests.helper import (
    BLOCK, NOTHING, TOTAL, WRONG, least_seconds, listed, replaced, slowness, some_machine, spoiled, words_to,
)

SHORT = make_machine("a", 3, (0, "a", 0, 0, 1), (1, "a", 0, 0, 2), finals=(1, 2))
# Accepts ab, abab, .. and b; restarts, which do not count.
PAIRS = make_machine("ab", 3, (0, "a", 1, 0, 1), (1, "b", 0, 0, 2), (2, "a", 0, 0, 1), (0, "b", 0, 0, 2), finals=(2,))
ALL = plain_of(TOTAL)
EIGHT = make_machine("ab", 8, (0, "a", 0, 0, 7), finals=(7,))
CALLS = [piece_machine, power_paper, lambda machine: is_power_paper(machine, None)]


def some_plain(seed, states=4, steps=9):
    return plain_of(some_machine(seed, "ab", states, steps))


def cuttings_of(machine, word):
    """Return all cuttings of the word."""
    found = {0: [()]}
    for end in range(1, len(word) + 1):
        found[end] = [
            (*ends, end) for begin in range(end) if need(machine, word[begin:end]) is not None for ends in found[begin]
        ]
    return found[len(word)]


def dense(many, size=7):
    """Return a plain machine with so many steps, and its start without steps."""
    steps = [(state, letter, 0, 0, goal) for state in range(1, size) for letter in "ab" for goal in range(size)]
    return machine_from("ab", size, tuple(steps[:many]), (0,), (0,))


class CuttingTests(unittest.TestCase):
    def test_cuttings(self):
        for seed in range(60):
            machine = some_plain(seed)
            for word in words_to("ab", 5):
                all_of_them = cuttings_of(machine, word)
                for bits in range(2 ** len(word)):
                    value = tuple(place for place in range(1, len(word) + 1) if (bits >> (place - 1)) & 1)
                    self.assertIs(is_cutting(machine, word, value), value in all_of_them)
                best = best_cutting(machine, word)
                if best is None:
                    self.assertEqual(all_of_them, [])
                else:
                    self.assertIn(best, all_of_them)
                    self.assertEqual(len(best), min(map(len, all_of_them)))

    def test_wrong_cuttings(self):
        word = "abbab"
        self.assertTrue(is_cutting(PAIRS, word, (2, 3, 5)))
        wrong = [(), (0, 2, 3, 5), (2, 2, 3, 5), (2, 3, 5, 5), (2, 3, 6), (2, 3), (3, 2, 5), (2, 3, 5, 6), (5,), (2, 5, 3)]
        wrong += [[2, 3, 5], (2, 3, True), (2, "3", 5), (2, None, 5), (2, (3,), 5), ((2, 3, 5),), (-1, 2, 3, 5)]
        for value in wrong + WRONG + NOTHING + [0, "", "235"] + list(listed((2, 3, 5))):
            self.assertIs(is_cutting(PAIRS, word, value), False)
        for value in [(0,), (0, 0), None, [], (1,), {}]:
            self.assertIs(is_cutting(ALL, "", value), False)
        self.assertIs(is_cutting(ALL, "", ()), True)
        self.assertIs(is_cutting(ALL, "b", (True,)), False)
        for other in WRONG:
            for value in replaced((2, 3, 5), other):
                self.assertIs(is_cutting(PAIRS, word, value), False)

    def test_long_words(self):
        self.assertEqual(best_cutting(SHORT, ""), ())
        self.assertEqual(best_cutting(ALL, "ab" * 100), (200,))
        self.assertEqual(len(best_cutting(SHORT, "a" * 200)), 100)
        self.assertIs(is_cutting(SHORT, "a" * 200, tuple(range(1, 201))), True)
        self.assertIs(is_cutting(SHORT, "a" * 200, tuple(range(3, 201)) + (200,)), False)
        self.assertIsNone(best_cutting(PAIRS, "a" * 200))
        self.assertEqual(best_cutting(make_machine("a", 1), ""), ())
        self.assertIsNone(best_cutting(make_machine("a", 1), "a"))
        self.assertEqual(best_cutting(EIGHT, "aaa"), (1, 2, 3))
        self.assertLess(least_seconds(lambda: best_cutting(SHORT, "a" * 200), 3), 0.05 * slowness())

    def test_errors(self):
        for wrong in spoiled(ALL):
            self.assertRaises(InvalidMachine, is_cutting, wrong, None, None)
            self.assertRaises(InvalidMachine, best_cutting, wrong, None)
        for machine in (TOTAL, BLOCK):
            self.assertRaises(InvalidOperation, is_cutting, machine, None, None)
            self.assertRaises(InvalidOperation, best_cutting, machine, None)
        for wrong in WRONG + NOTHING + ["c", "a" * 201, ("a",)]:
            self.assertRaises(InvalidWord, is_cutting, ALL, wrong, None)
            self.assertRaises(InvalidWord, best_cutting, ALL, wrong)


class PieceTests(unittest.TestCase):
    def test_step_by_step(self):
        self.assertEqual(
            piece_machine(SHORT),
            ("a", 4, (3,), (1, 2, 3), (
                (0, "a", 0, 0, 1), (1, "a", 0, 0, 2), (1, "a", 0, 1, 1), (2, "a", 0, 1, 1), (3, "a", 0, 1, 1),
            )),
        )
        self.assertEqual(
            piece_machine(PAIRS),
            ("ab", 4, (3,), (2, 3), (
                (0, "a", 0, 0, 1), (0, "b", 0, 0, 2), (1, "b", 0, 0, 2), (2, "a", 0, 0, 1), (2, "a", 0, 1, 1),
                (2, "b", 0, 1, 2), (3, "a", 0, 1, 1), (3, "b", 0, 1, 2),
            )),
        )
        self.assertEqual(piece_machine(make_machine("a", 1)), ("a", 2, (1,), (1,), ()))
        both = make_machine("a", 1, (0, "a", 0, 0, 0), (0, "a", 1, 0, 0), finals=(0,))
        self.assertEqual(piece_machine(both)[4], ((0, "a", 0, 0, 0), (0, "a", 0, 1, 0), (1, "a", 0, 1, 0)))

    def test_needs(self):
        for seed in range(60):
            machine = some_plain(seed)
            pieces = piece_machine(machine)
            self.assertTrue(is_meter(pieces))
            for word in words_to("ab", 6):
                best = best_cutting(machine, word)
                self.assertEqual(need(pieces, word), None if best is None else len(best))

    def test_bounds(self):
        for call in CALLS:
            with self.assertRaises(TooLarge) as caught:
                call(EIGHT)
            self.assertEqual(caught.exception.limit, 8)
            with self.assertRaises(TooLarge) as caught:
                call(machine_from("ab", 7, dense(59)[4] + ((0, "a", 0, 0, 0),), (0,), ()))
            self.assertEqual(caught.exception.limit, 60)
            for wrong in spoiled(ALL):
                self.assertRaises(InvalidMachine, call, wrong)
            self.assertRaises(InvalidOperation, call, make_machine("ab", 8, (0, "a", 0, 1, 0)))
        full = machine_from("ab", 7, dense(58)[4] + ((0, "a", 0, 0, 0),), (0,), ())
        self.assertEqual(len(piece_machine(full)[4]), 60)
        # The steps of the machine are counted when restarts are gone.
        twice = machine_from("ab", 7, full[4] + ((0, "a", 1, 0, 0),), (0,), ())
        self.assertEqual(piece_machine(twice), piece_machine(full))


class PaperTests(unittest.TestCase):
    def papers(self):
        for machine in (SHORT, PAIRS, ALL, make_machine("a", 1)):
            yield machine, power_paper(machine)
        for seed in range(80):
            machine = some_plain(seed, 3, 7)
            try:
                yield machine, power_paper(machine)
            except TooLarge:
                pass

    def test_own_papers(self):
        kinds = set()
        for machine, paper in self.papers():
            kinds.add(paper[0])
            self.assertTrue(is_power_paper(machine, paper))
            pieces = piece_machine(machine)
            if paper[0] == "power":
                self.assertEqual(paper[1], bound_paper(pieces, plain_of(pieces), 0))
                most = max([len(best_cutting(machine, word) or ()) for word in words_to(machine[0], 7)])
                self.assertLessEqual(most, paper[1][0])
                if paper[1][0] <= 2:
                    self.assertEqual(most, paper[1][0])
            else:
                self.assertTrue(is_verdict(pieces, plain_of(pieces), paper))
        self.assertEqual(kinds, {"power", "grows"})

    def test_spoiled_papers(self):
        for machine, paper in list(self.papers())[:12]:
            for wrong in spoiled(paper):
                if wrong != paper:
                    self.assertIs(is_power_paper(machine, wrong), is_right(machine, wrong), wrong)

    def test_papers_by_hand(self):
        paper = power_paper(ALL)
        self.assertEqual(paper[1][0], 1)
        number, pairs, _ = paper[1]
        # A longer word, and one of more than 200 letters, do as well.
        for word in ("b", "ab", "a" * 300):
            self.assertTrue(is_power_paper(ALL, ("power", (number, pairs, word))))
        for word in ("", "c", None, ["a"]):
            self.assertFalse(is_power_paper(ALL, ("power", (number, pairs, word))))
        more = tuple(sorted(
            {*pairs, ((None, None), (None, None))}, key=lambda pair: [31 if x is None else x for row in pair for x in row]
        ))
        self.assertEqual(len(more), len(pairs) + 1)
        self.assertTrue(is_power_paper(ALL, ("power", (number, more, "a"))))
        # With the cap 0 no row of the plain machine has an entry above 0.
        above = tuple(sorted([*pairs, ((1, None), (1, None))], key=lambda pair: [31 if x is None else x for x in sum(pair, ())]))
        self.assertEqual(len(set(above)), len(pairs) + 1)
        self.assertFalse(is_power_paper(ALL, ("power", (number, above, "a"))))
        self.assertFalse(is_power_paper(ALL, ("power", (number, more[::-1], "a"))))
        self.assertFalse(is_power_paper(ALL, ("power", (number, pairs[1:], "a"))))
        self.assertFalse(is_power_paper(ALL, ("closed", paper[1])))
        self.assertFalse(is_power_paper(ALL, paper + paper))
        self.assertFalse(is_power_paper(ALL, list(paper)))
        grown = ("grows", pump_recipe(word_recipe("aaa")))
        self.assertTrue(is_power_paper(SHORT, grown))
        self.assertTrue(is_power_paper(SHORT, ("grows", pump_recipe(word_recipe("aaaa")))))
        self.assertFalse(is_power_paper(SHORT, ("grows", pump_recipe(word_recipe("a")))))
        self.assertFalse(is_power_paper(ALL, grown))
        self.assertFalse(is_power_paper(SHORT, ("grows", word_recipe("aaa"))))
        self.assertFalse(is_power_paper(SHORT, ("never", "a")))
        self.assertFalse(is_power_paper(SHORT, ("power", grown[1])))


def is_right(machine, value):
    """Return whether the value is a power paper, told by the functions for its parts."""
    if type(value) is not tuple or len(value) != 2:
        return False
    pieces = piece_machine(machine)
    if value[0] == "power":
        return is_bound_paper(pieces, plain_of(pieces), 0, value[1])
    return value[0] == "grows" and is_verdict(pieces, plain_of(pieces), value)


if __name__ == "__main__":
    unittest.main()
