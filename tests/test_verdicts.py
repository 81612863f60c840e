"""[7.1], [7.2]: verdicts."""

import random
import unittest

from openlimit import errors
from openlimit.machines.machines import machine_from, make_machine
from openlimit.machines.needs import need
from openlimit.tables.closures import closure
from openlimit.tables.grades import value_of
from openlimit.tables.recipes import ceiling, fits, pump_recipe, tables_in, then_recipe, word_recipe
from openlimit.tables.written import row_of_written, written_of
from openlimit.verdicts.verdicts import is_bounded, is_verdict, never_word, verdict
from tests.helper import (
    BLOCK, LESS, MOST, NOTHING, TOTAL, WRONG, full_machine, replaced, sets_machine, some_machine, spoiled, words_to,
)

OTHER = make_machine("abc", 1)
FREE = make_machine("ab", 1, (0, "a", 0, 0, 0), (0, "b", 0, 0, 0), finals=(0,))
# Few words, and none at all.
ONLY_A = make_machine("ab", 1, (0, "a", 0, 0, 0), finals=(0,))
NEVER = make_machine("ab", 1, (0, "a", 0, 0, 0))
BOTH = then_recipe(pump_recipe(word_recipe("a")), pump_recipe(word_recipe("b")))

# Words lead to 2000 and to 2001 pairs of sets of states: for each letter the states behind each state, as bits.
TWO_THOUSAND = (
    sets_machine([[16, 4, 4, 5, 32, 128, 64, 8], [64, 32, 16, 34, 32, 128, 36, 128]], 16),
    sets_machine([[64, 2, 1, 32, 4, 8, 128, 1], [16, 8, 2, 34, 32, 64, 2, 32]], 128),
)
ONE_MORE = (
    sets_machine([[2, 17, 160, 8, 2, 64, 128, 128], [128, 128, 10, 8, 64, 17, 2, 32]], 136),
    sets_machine([[2, 32, 128, 33, 64, 4, 4, 1], [32, 4, 128, 4, 64, 16, 1, 8]], 8),
)
# The first never word stands behind words that lead to 2000 pairs, and to 2001.
LATE_MOVES = (
    [[72, 32, 24, 2, 1, 132, 128, 4], [64, 4, 8, 2, 2, 1, 32, 128]],
    [[16, 32, 64, 128, 1, 2, 128, 32], [8, 4, 128, 2, 32, 1, 128, 32]],
)
# The first never word stands behind words that lead to 2000 pairs, and to 2001.
LATE = (sets_machine(LATE_MOVES[0], 65, 255 - 76), sets_machine(LATE_MOVES[1], 9, 16))
TOO_LATE = (sets_machine(LATE_MOVES[0], 65, 255 - 192), sets_machine(LATE_MOVES[1], 9, 8))


def behind(machine, states, letter):
    return frozenset(step[4] for step in machine[4] if step[0] in states and step[1] == letter)


def never_by_sets(first, second):
    """Return the first never word, or None, and the number of the pairs to which the words ahead of it lead."""
    ends = (set(first[3]), set(second[3]))
    queue = [("", frozenset(first[2]), frozenset(second[2]))]
    seen = {queue[0][1:]}
    for many, (word, one, other) in enumerate(queue):
        if other & ends[1] and not one & ends[0]:
            return word, many
        for letter in first[0]:
            pair = (behind(first, one, letter), behind(second, other, letter))
            if pair not in seen:
                seen.add(pair)
                queue.append((word + letter, *pair))
    return None, len(queue)


class NeverWordTests(unittest.TestCase):
    def test_against_all_words(self):
        for seed in range(300):
            first, second = some_machine(seed), some_machine(seed + 400)
            expected = [
                word for word in words_to("ab", 4)
                if need(second, word) is not None and need(first, word) is None
            ]
            found = never_word(first, second)
            if expected:
                self.assertEqual(found, expected[0])
            else:
                self.assertTrue(found is None or len(found) > 4)
            self.assertEqual(found, never_by_sets(first, second)[0])

    def test_by_hand(self):
        self.assertEqual([never_word(NEVER, ONLY_A), never_word(ONLY_A, BLOCK), never_word(BLOCK, ONLY_A)], ["", "b", None])
        long = make_machine("ab", 8, *[(i, "b", 0, 1, i + 1) for i in range(7)], finals=(7,))
        self.assertEqual(never_word(ONLY_A, long), "b" * 7)

    def test_at_the_limit(self):
        self.assertEqual([never_by_sets(*TWO_THOUSAND), never_word(*TWO_THOUSAND)], [(None, 2000), None])
        word, ahead = never_by_sets(*LATE)
        self.assertEqual([ahead, never_word(*LATE)], [2000, word])
        self.assertEqual(verdict(*LATE), ("never", word))
        self.assertEqual(never_by_sets(*ONE_MORE), (None, 2001))
        self.assertEqual(never_by_sets(*TOO_LATE)[1], 2001)
        for machines in (ONE_MORE, TOO_LATE):
            for call in (never_word, verdict, is_bounded):
                with self.assertRaises(errors.TooLarge) as caught:
                    call(*machines)
                self.assertEqual(caught.exception.limit, 2000)

    def test_errors(self):
        for wrong in [*spoiled(LESS), None]:
            self.assertRaises(errors.InvalidMachine, never_word, wrong, None)
            self.assertRaises(errors.InvalidMachine, never_word, LESS, wrong)
        self.assertRaises(errors.InvalidOperation, never_word, LESS, OTHER)


class VerdictTests(unittest.TestCase):
    def check_paper(self, first, second, paper):
        """Check the paper with functions that do not judge papers."""
        kind, told = paper
        if kind == "never":
            self.assertIsNotNone(need(second, told))
            self.assertIsNone(need(first, told))
        elif kind == "grows":
            self.assertIs(fits(told, first, second), True)
            tables = tables_in(told, first, second)
            self.assertEqual(value_of(first, tables[0]), "dear")
            most = ceiling(told, second)
            for number in (1, 2, 3, 30):
                word = written_of(told, number, 8)
                row = row_of_written(first, number, word)
                self.assertEqual([row[final] for final in first[3]], [None] * len(first[3]))
                if most <= 30:
                    row = row_of_written(second, most, word)
                    self.assertTrue(any(row[final] is not None for final in second[3]))
        else:
            self.assertEqual(told, closure(first, second))
            for one, other in told:
                values = (value_of(first, one), value_of(second, other))
                self.assertFalse(values[0] in ("dear", "none") and values[1] in ("restart", "free", "paid"))

    def test_exactly_one_thing(self):
        kinds = {"never": 0, "grows": 0, "closed": 0}
        for seed in range(500):
            first, second = some_machine(seed, most_states=2, most_steps=6), some_machine(seed + 600, most_states=2)
            if seed % 2:
                first, second = (m[:2] + (tuple(range(m[1])),) * 2 + m[4:] for m in (first, second))
            try:
                paper = verdict(first, second)
            except errors.TooLarge:
                continue
            kinds[paper[0]] += 1
            self.check_paper(first, second, paper)
            self.assertIs(is_verdict(first, second, paper), True)
            self.assertIs(is_bounded(first, second), paper[0] == "closed")
            self.assertEqual(verdict(first, second), paper)
            if paper[0] != "closed":
                # No closed paper exists beside one of the others.
                self.assertIs(is_verdict(first, second, ("closed", closure(first, second))), False)
            word = never_word(first, second)
            if word is not None:
                self.assertEqual(paper, ("never", word))
        self.assertGreater(min(kinds.values()), 20, kinds)

    def test_bounded_by_itself_and_by_what_is_bounded(self):
        machines = [some_machine(seed, most_states=2, most_steps=5) for seed in range(14)] + [BLOCK, TOTAL, MOST, LESS, FREE]
        bounded = {}
        for one, first in enumerate(machines):
            for other, second in enumerate(machines):
                try:
                    bounded[one, other] = is_bounded(first, second)
                except errors.TooLarge:
                    bounded[one, other] = None
            self.assertIn(bounded[one, one], (True, None))
        for one, other in bounded:
            for third in range(len(machines)):
                if bounded[one, other] and bounded[other, third]:
                    self.assertIsNot(bounded[one, third], False)

    def test_by_hand(self):
        self.assertEqual([verdict(TOTAL, BLOCK)[0], verdict(BLOCK, TOTAL)[0]], ["grows", "closed"])
        self.assertEqual([is_bounded(LESS, MOST), is_bounded(MOST, LESS), is_bounded(LESS, TOTAL)], [True, False, True])
        # Nothing is accepted, so everything bounds, and all words are without a need.
        self.assertEqual([is_bounded(BLOCK, NEVER), is_bounded(NEVER, NEVER), is_bounded(NEVER, FREE)], [True, True, False])
        self.assertEqual(verdict(NEVER, FREE), ("never", ""))
        # A restart at each b keeps the count small only if each block is small.
        self.assertEqual([is_bounded(FREE, BLOCK), is_bounded(BLOCK, FREE)], [True, False])

    def test_never_goes_ahead(self):
        great = full_machine("ab", 0, 20)
        self.assertRaises(errors.TooLarge, closure, great, BLOCK)
        self.assertEqual(verdict(ONLY_A, great, most=1)[0], "never")
        self.assertIs(is_bounded(ONLY_A, great, most=1), False)
        with self.assertRaises(errors.TooLarge) as caught:
            verdict(great, ONLY_A)
        self.assertEqual(caught.exception.limit, 300)

    def test_most(self):
        many = len(closure(LESS, MOST))
        self.assertEqual(verdict(LESS, MOST, most=many), verdict(LESS, MOST))
        for call in (verdict, is_bounded):
            for first, second in ((LESS, MOST), (MOST, LESS)):
                with self.assertRaises(errors.TooLarge) as caught:
                    call(first, second, most=many - 1)
                self.assertEqual(caught.exception.limit, many - 1)
            for most in WRONG + NOTHING + [0, 301, "1"]:
                with self.assertRaises(errors.InvalidNumber) as caught:
                    call(NEVER, FREE, most=most)
                self.assertIs(caught.exception.value, most)

    def test_errors(self):
        for call in (verdict, is_bounded):
            for wrong in [*spoiled(LESS), None]:
                self.assertRaises(errors.InvalidMachine, call, wrong, None, most=0)
                self.assertRaises(errors.InvalidMachine, call, LESS, wrong, most=0)
            self.assertRaises(errors.InvalidOperation, call, LESS, OTHER, most=0)
            self.assertRaises(errors.InvalidNumber, call, *ONE_MORE, most=0)
            self.assertRaises(TypeError, call, LESS, MOST, 30)


class IsVerdictTests(unittest.TestCase):
    def test_never(self):
        for word in ("b", "ab", "b" * 300, "a" * 1000 + "b"):
            self.assertIs(is_verdict(ONLY_A, BLOCK, ("never", word)), True)
        for word in ("", "a", "aa", "c", "bc", "B", "b\n", ("b",), ["b"], None, 1, True):
            self.assertIs(is_verdict(ONLY_A, BLOCK, ("never", word)), False)
        self.assertIs(is_verdict(BLOCK, ONLY_A, ("never", "b")), False)
        self.assertIs(is_verdict(NEVER, FREE, ("never", "")), True)

    def test_grows(self):
        right = pump_recipe(word_recipe("ab"))
        for recipe in (right, pump_recipe(right), then_recipe(right, word_recipe("a")), pump_recipe(word_recipe("ba"))):
            self.assertIs(is_verdict(TOTAL, BLOCK, ("grows", recipe)), True)
        for recipe in (word_recipe("ab"), pump_recipe(word_recipe("a")), pump_recipe(word_recipe("b")), BOTH, ()):
            self.assertIs(is_verdict(TOTAL, BLOCK, ("grows", recipe)), False)
        for value in [*spoiled(("grows", right))]:
            self.assertIs(is_verdict(TOTAL, BLOCK, value), False)
        self.assertIs(is_verdict(LESS, BLOCK, ("grows", BOTH)), False)
        self.assertIs(is_verdict(TOTAL, BLOCK, ("grows", word_recipe("c"))), False)
        # The words of this one have no need in the first machine, which is another reason.
        self.assertIs(is_verdict(ONLY_A, FREE, ("grows", pump_recipe(word_recipe("b")))), False)

    def test_recipes_that_fit_one_machine_only(self):
        swap = make_machine("ab", 2, (0, "a", 0, 0, 1), (1, "a", 0, 0, 0), (0, "b", 0, 0, 0), finals=(0, 1))
        paid = make_machine("ab", 1, (0, "a", 0, 1, 0), (0, "b", 0, 0, 0), finals=(0,))
        one, two = pump_recipe(word_recipe("a")), pump_recipe(word_recipe("aa"))
        self.assertEqual([fits(one, paid), fits(one, swap), fits(two, swap, paid)], [True, False, True])
        self.assertIs(is_verdict(paid, swap, ("grows", one)), False)
        self.assertIs(is_verdict(paid, swap, ("grows", two)), True)
        costly = make_machine("ab", 2, (0, "a", 0, 1, 1), (1, "a", 0, 1, 0), (0, "b", 0, 0, 0), finals=(0, 1))
        self.assertIs(is_verdict(costly, FREE, ("grows", one)), False)
        self.assertIs(is_verdict(costly, FREE, ("grows", two)), True)

    def test_closed(self):
        pairs = closure(LESS, MOST)
        none = ((("none", "none"), ("none", "none")), (("none",),))
        more = tuple(sorted(pairs + (none,)))
        self.assertIs(is_verdict(LESS, MOST, ("closed", pairs)), True)
        self.assertIs(is_verdict(LESS, MOST, ("closed", more)), True)
        for value in (pairs[1:], pairs[:-1], pairs[::-1], pairs + pairs[-1:], (), list(pairs), closure(MOST, LESS)):
            self.assertIs(is_verdict(LESS, MOST, ("closed", value)), False)
        for value in list(spoiled(("closed", pairs)))[::7]:
            self.assertIs(is_verdict(LESS, MOST, ("closed", value)), False)
            self.assertIs(is_verdict(LESS, MOST, value), False)
        for kind in ("Closed", "", None, 0, "grows", "never", ("closed",)):
            self.assertIs(is_verdict(LESS, MOST, (kind, pairs)), False)
        # Closed, but with a forbidden pair.
        self.assertIs(is_verdict(MOST, LESS, ("closed", closure(MOST, LESS))), False)
        self.assertIs(is_verdict(ONLY_A, FREE, ("closed", closure(ONLY_A, FREE))), False)

    def test_forbidden_pairs_beside_the_closure(self):
        pairs = closure(FREE, FREE)
        self.assertEqual(pairs, ((((("free",),), (("free",),))),))
        for first in ("dear", "none"):
            for second, expected in (("dear", True), ("none", True), ("restart", False), ("free", False)):
                value = tuple(sorted(pairs + ((((first,),), ((second,),)),)))
                self.assertIs(is_verdict(FREE, FREE, ("closed", value)), expected)

    def test_the_empty_word(self):
        late = make_machine("ab", 2, *[(i, letter, 0, 0, 1) for i in (0, 1) for letter in "ab"], finals=(1,))
        self.assertIs(is_verdict(late, FREE, ("closed", closure(late, FREE))), False)
        self.assertEqual(verdict(late, FREE), ("never", ""))
        self.assertIs(is_verdict(FREE, late, ("closed", closure(FREE, late))), True)
        self.assertIs(is_verdict(late, late, ("closed", closure(late, late))), True)

    def test_other_values(self):
        word = verdict(ONLY_A, BLOCK)
        for wrong in WRONG + NOTHING + ["never", ("never",), ("never", "b", 0), ("Never", "b"), ("", "b"), (0, "b"), ()]:
            self.assertIs(is_verdict(ONLY_A, BLOCK, wrong), False)
            self.assertIs(is_verdict(ONLY_A, BLOCK, ("never", wrong)), False)
            self.assertIs(is_verdict(ONLY_A, BLOCK, ("grows", wrong)), False)
            self.assertIs(is_verdict(BLOCK, ONLY_A, ("closed", wrong)), False)
        for value in replaced(word, "closed"):
            self.assertIs(is_verdict(ONLY_A, BLOCK, value), False)
        self.assertIs(is_verdict(ONLY_A, BLOCK, list(word)), False)

    def test_papers_for_other_machines(self):
        draw = random.Random(1)
        machines = [some_machine(seed, most_states=2, most_steps=5) for seed in range(40)] + [BLOCK, TOTAL, MOST, LESS]
        for _ in range(150):
            first, second, third = (draw.choice(machines) for _ in range(3))
            try:
                paper = verdict(first, second)
                expected = verdict(first, third)
            except errors.TooLarge:
                continue
            if is_verdict(first, third, paper) and paper[0] == "closed":
                self.assertEqual(expected[0], "closed")
            elif is_verdict(first, third, paper):
                self.assertNotEqual(expected[0], "closed")

    def test_errors(self):
        for wrong in [*spoiled(LESS), None]:
            self.assertRaises(errors.InvalidMachine, is_verdict, wrong, None, None)
            self.assertRaises(errors.InvalidMachine, is_verdict, LESS, wrong, None)
        self.assertRaises(errors.InvalidOperation, is_verdict, LESS, OTHER, None)
        self.assertIs(is_verdict(machine_from("ab", 1, (), (), ()), NEVER, ("never", "")), False)
