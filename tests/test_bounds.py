"""[8.1] to [8.3]: rates and bound papers."""

import unittest

from openlimit import errors
from openlimit.machines.machines import make_machine
from openlimit.machines.needs import first_row, need, row_behind, row_of
from openlimit.verdicts.bounds import bound_paper, is_bound_paper, rate
from openlimit.verdicts.verdicts import is_bounded, is_verdict
from tests.helper import (
    BLOCK, LESS, MOST, NOTHING, TOTAL, WRONG, full_machine, replaced, seconds, slowness, some_machine, spoiled, words_to,
)
from tests.test_verdicts import FREE, NEVER, ONE_MORE, ONLY_A, OTHER

THRICE = make_machine("ab", 1, (0, "a", 0, 3, 0), (0, "b", 0, 0, 0), finals=(0,))
# State 0 counts the a, states 1 to 5 turn with each b, state 6 is left at the first c, state 7 at the first letter.
LOOPS = [(0, letter, 0, int(letter == "a"), 0) for letter in "abcd"]
LOOPS += [(1 + i, letter, 0, 0, 1 + (i + (letter == "b")) % 5) for i in range(5) for letter in "abcd"]
LOOPS += [(6, letter, 0, 0, 6) for letter in "abd"]
COUNTER = make_machine("abcd", 8, *LOOPS, starts=(0, 1, 6), finals=tuple(range(8)))
COUNTER_AND_START = make_machine("abcd", 8, *LOOPS, starts=(0, 1, 6, 7), finals=tuple(range(8)))
# The states turn with each d.
EIGHT = make_machine(
    "abcd", 8, *[(i, letter, 0, 0, (i + (letter == "d")) % 8) for i in range(8) for letter in "abcd"],
    finals=tuple(range(8)),
)
# Only the first c costs; states 3 to 7 turn with each d.
FIRST_C = make_machine(
    "abcd", 8, *[(i, letter, 0, 0, i) for i in range(3) for letter in "abd"], (0, "c", 0, 1, 1), (1, "c", 0, 0, 2),
    (2, "c", 0, 0, 2),
    *[(3 + i, letter, 0, 0, 3 + (i + (letter == "d")) % 5) for i in range(5) for letter in "abcd"],
    starts=(0, 3), finals=(0, 1, 2),
)


def order_of(pair):
    return [99 if entry is None else entry for row in pair for entry in row]


def is_right_paper(first, second, cap, paper):
    """Return whether this is a bound paper, found by functions that judge no papers; words have up to 200 letters."""
    number, pairs, word = paper
    known = set(pairs)
    if list(pairs) != sorted(known, key=order_of) or (first_row(second), first_row(first)) not in known:
        return False
    for other, one in pairs:
        if any(other[final] is not None for final in second[3]) and all(one[final] is None for final in first[3]):
            return False
        for letter in first[0]:
            if (row_behind(second, cap, other, letter), row_behind(first, number, one, letter)) not in known:
                return False
    if number == 0:
        return word is None
    least = need(second, word)
    return least is not None and least <= cap and need(first, word) == number


class RateTests(unittest.TestCase):
    def test_against_all_words(self):
        done = 0
        for seed in range(400):
            first, second = some_machine(seed, most_states=3, most_steps=7), some_machine(seed + 900, most_states=2)
            try:
                if not is_bounded(first, second):
                    continue
            except errors.TooLarge:
                continue
            done += 1
            needs = [(need(second, word), need(first, word)) for word in words_to("ab", 5)]
            for cap in (0, 1, 3, 4):
                paper = bound_paper(first, second, cap)
                self.assertEqual(rate(first, second, cap), paper[0])
                self.assertTrue(is_right_paper(first, second, cap, paper))
                self.assertIs(is_bound_paper(first, second, cap, paper), True)
                least = max([one for other, one in needs if other is not None and other <= cap], default=0)
                self.assertLessEqual(least, paper[0])
        self.assertGreater(done, 60)

    def test_by_hand(self):
        self.assertEqual([rate(BLOCK, TOTAL, cap) for cap in (0, 1, 4, 30)], [0, 1, 4, 30])
        self.assertEqual([rate(LESS, MOST, 2), rate(LESS, LESS, 7), rate(FREE, BLOCK, 30)], [2, 7, 0])
        self.assertEqual([rate(BLOCK, NEVER, 30), rate(NEVER, NEVER, 0), rate(BLOCK, NEVER, cap=0)], [0, 0, 0])
        steps = ((0, "a", 0, 3, 0), (0, "b", 1, 2, 0))
        fast = make_machine("ab", 1, *steps, finals=(0,))
        # Two a within a block of two, behind a b: 2 + 3 + 3.
        self.assertEqual([rate(fast, BLOCK, 0), rate(fast, BLOCK, 2), rate(BLOCK, fast, 8)], [2, 8, 2])

    def test_rates_beyond_thirty(self):
        self.assertEqual([rate(THRICE, TOTAL, 10), bound_paper(THRICE, TOTAL, 10)[2].count("a")], [30, 10])
        for call in (rate, bound_paper):
            for cap in (11, 30):
                with self.assertRaises(errors.TooLarge) as caught:
                    call(THRICE, TOTAL, cap)
                self.assertEqual(caught.exception.limit, 30)

    def test_thirty_and_thirty_one(self):
        steps = ((0, "b", 0, 1, 1), (1, "a", 0, 3, 1), (1, "b", 0, 0, 1))
        first = make_machine("ab", 2, *steps, finals=(1,))
        second = make_machine("ab", 2, (0, "b", 0, 0, 1), (1, "a", 0, 1, 1), (1, "b", 0, 0, 1), finals=(1,))
        self.assertEqual(rate(first, second, 9), 28)
        with self.assertRaises(errors.TooLarge) as caught:
            rate(first, second, 10)
        self.assertEqual(caught.exception.limit, 30)

    def test_papers_are_in_order(self):
        for first, second in ((BLOCK, TOTAL), (LESS, MOST)):
            paper = bound_paper(first, second, 30)
            self.assertEqual(paper[0], 30)
            self.assertTrue(is_right_paper(first, second, 30, paper))
            self.assertIs(is_bound_paper(first, second, 30, paper), True)
        pairs = bound_paper(LESS, MOST, 2)[1]
        self.assertEqual(list(pairs), sorted(pairs, key=order_of))
        self.assertEqual([pairs[0], pairs[-1]], [((0,), (0, 0)), ((None,), (None, None))])

    def test_two_thousand_pairs(self):
        paper = bound_paper(EIGHT, COUNTER, 23)
        self.assertEqual([paper[0], len(paper[1]), paper[2]], [0, 2000, None])
        self.assertIs(is_bound_paper(EIGHT, COUNTER, 23, paper), True)
        for call in (rate, bound_paper):
            for second, cap in ((COUNTER_AND_START, 23), (COUNTER, 24)):
                with self.assertRaises(errors.TooLarge) as caught:
                    call(EIGHT, second, cap)
                self.assertEqual(caught.exception.limit, 2000)
        self.assertEqual(len(bound_paper(EIGHT, COUNTER_AND_START, 22)[1]), 1921)
        self.assertLess(seconds(lambda: bound_paper(EIGHT, COUNTER, 23)), slowness())
        self.assertLess(seconds(lambda: is_bound_paper(EIGHT, COUNTER, 23, paper)), slowness())

    def test_too_many_pairs_for_the_rate_only(self):
        # For M = 0 there are 50 pairs for each count of a, and for M = 1, the rate, 75.
        self.assertEqual([rate(FIRST_C, COUNTER, 24), len(bound_paper(FIRST_C, COUNTER, 24)[1])], [1, 1950])
        with self.assertRaises(errors.TooLarge) as caught:
            rate(FIRST_C, COUNTER, 25)
        self.assertEqual(caught.exception.limit, 2000)

    def test_unlimited(self):
        for first, second in ((TOTAL, BLOCK), (MOST, LESS), (NEVER, FREE), (ONLY_A, BLOCK)):
            for call in (rate, bound_paper):
                for cap in (0, 30):
                    with self.assertRaises(errors.Unlimited) as caught:
                        call(first, second, cap)
                    paper = caught.exception.paper
                    self.assertIs(is_verdict(first, second, paper), True)
                    self.assertIn(paper[0], ("never", "grows"))
        # Ahead of the pairs of rows, which would be too many.
        twice = make_machine("abcd", 1, *[(0, letter, 0, 1, 0) for letter in "abcd"], finals=(0,))
        with self.assertRaises(errors.Unlimited):
            rate(twice, COUNTER_AND_START, 30)

    def test_errors(self):
        for call in (rate, bound_paper):
            for wrong in [*spoiled(LESS), None]:
                self.assertRaises(errors.InvalidMachine, call, wrong, None, None, most=None)
                self.assertRaises(errors.InvalidMachine, call, LESS, wrong, None, most=None)
            self.assertRaises(errors.InvalidOperation, call, LESS, OTHER, None, most=None)
            for cap in WRONG + NOTHING + [31, "1"]:
                with self.assertRaises(errors.InvalidNumber) as caught:
                    call(TOTAL, BLOCK, cap, most=0)
                self.assertIs(caught.exception.value, cap)
            for most in WRONG + NOTHING + [0, 301]:
                with self.assertRaises(errors.InvalidNumber) as caught:
                    call(TOTAL, BLOCK, 0, most=most)
                self.assertIs(caught.exception.value, most)
            with self.assertRaises(errors.TooLarge) as caught:
                call(*ONE_MORE, 0)
            self.assertEqual(caught.exception.limit, 2000)
            with self.assertRaises(errors.TooLarge) as caught:
                call(LESS, MOST, 2, most=3)
            self.assertEqual(caught.exception.limit, 3)
            with self.assertRaises(errors.TooLarge) as caught:
                call(full_machine("ab", 0, 20), full_machine("ab", 0, 20), 2)
            self.assertEqual(caught.exception.limit, 300)


class IsBoundPaperTests(unittest.TestCase):
    def test_all_rows(self):
        # All pairs of rows that can be, but for those that refuse a word, are more than enough.
        for first, second, cap, number, word in ((LESS, MOST, 0, 0, None), (LESS, MOST, 2, 2, "aabb"), (BLOCK, TOTAL, 1, 1, "bab")):
            entries = {0: (None,), 1: (None,)}
            entries[0] = (None, *range(cap + 1))
            entries[1] = (None, *range(number + 1))
            one = [()]
            for _ in range(first[1]):
                one = [row + (entry,) for row in one for entry in entries[1]]
            other = [(entry,) for entry in entries[0]]
            pairs = [(b, a) for b in other for a in one]
            paper = bound_paper(first, second, cap)
            kept = tuple(sorted(set(paper[1]) | {pair for pair in pairs if pair[0] == (None,)}, key=order_of))
            self.assertIs(is_bound_paper(first, second, cap, (number, kept, word)), True)
            self.assertTrue(is_right_paper(first, second, cap, (number, kept, word)))

    def test_parts(self):
        for first, second, cap in ((LESS, MOST, 2), (BLOCK, TOTAL, 3), (LESS, LESS, 1), (FREE, BLOCK, 2)):
            number, pairs, word = paper = bound_paper(first, second, cap)
            self.assertIs(is_bound_paper(first, second, cap, paper), True)
            wrong = [(number - 1, pairs, word), (number + 1, pairs, word), (number, pairs, "b" * 500), (number, (), word)]
            wrong += [(number, pairs[:place] + pairs[place + 1:], word) for place in range(len(pairs))]
            wrong += [(number, pairs[:place + 1] + pairs[place:], word) for place in range(len(pairs))]
            wrong += [(number, pairs[::-1], word), (number, pairs, 0), (number, pairs, ""), (number, pairs, "c")]
            wrong += [(number, tuple(sorted(set(pairs) | {pairs[0][::-1] * 2}, key=order_of)), word), (number, pairs)]
            wrong += [(number, pairs, None if word else "a"), paper + (0,), (pairs, number, word)]
            for value in wrong:
                self.assertIs(is_bound_paper(first, second, cap, value), False, value)
            self.assertIs(is_bound_paper(first, second, cap + 1, paper), False)

    def test_changed_entries(self):
        paper = bound_paper(LESS, MOST, 1)
        changed = 0
        for value in [*spoiled(paper), *replaced(paper, 0), *replaced(paper, 1), *replaced(paper, ("a",))]:
            if value != paper or "True" in repr(value) or "False" in repr(value):
                changed += 1
                self.assertIs(is_bound_paper(LESS, MOST, 1, value), False, value)
        self.assertGreater(changed, 500)

    def test_words(self):
        number, pairs, _ = bound_paper(LESS, MOST, 2)
        for word in ("aabb", "bbaa", "a" * 500 + "bb", "b" + "a" * 1000 + "b"):
            self.assertIs(is_bound_paper(LESS, MOST, 2, (number, pairs, word)), True)
        for word in ("ab", "aab", "b" * 3 + "aa", "a" * 500 + "bbb", "aabc", "aabB", "aabb\n", ("a", "a", "b", "b"), None):
            self.assertIs(is_bound_paper(LESS, MOST, 2, (number, pairs, word)), False)
        free = bound_paper(FREE, BLOCK, 2)
        self.assertEqual(free[::2], (0, None))
        for word in ("", "a", 0, False, ()):
            self.assertIs(is_bound_paper(FREE, BLOCK, 2, (0, free[1], word)), False)

    def test_refused_words(self):
        # Closed under letters, but for the cap 1 the word "aabb" is refused.
        pairs = {(first_row(MOST), first_row(LESS))}
        for word in words_to("ab", 7):
            pairs.add((row_of(MOST, 2, word), row_of(LESS, 1, word)))
        value = tuple(sorted(pairs, key=order_of))
        self.assertIs(is_bound_paper(LESS, MOST, 2, (1, value, "ab")), False)
        self.assertFalse(is_right_paper(LESS, MOST, 2, (1, value, "ab")))

    def test_papers_without_a_rate(self):
        # Without an a the words need nothing in both; that others grow does not matter for this cap.
        paper = (0, (((0,), (0,)), ((None,), (None,))), None)
        self.assertIs(is_bound_paper(TOTAL, BLOCK, 0, paper), True)
        self.assertRaises(errors.Unlimited, rate, TOTAL, BLOCK, 0)
        self.assertIs(is_bound_paper(TOTAL, BLOCK, 1, paper), False)

    def test_other_values(self):
        pairs = bound_paper(FREE, BLOCK, 2)[1]
        for wrong in WRONG + NOTHING + ["a", (0, pairs), (0, pairs, None, None), ((), (), ()), (0, "ab", None)]:
            self.assertIs(is_bound_paper(FREE, BLOCK, 2, wrong), False)
            self.assertIs(is_bound_paper(FREE, BLOCK, 2, (wrong, pairs, None)), False)
            self.assertIs(is_bound_paper(FREE, BLOCK, 2, (0, wrong, None)), False)
            if wrong is not None:
                self.assertIs(is_bound_paper(FREE, BLOCK, 2, (0, pairs, wrong)), False)
        self.assertIs(is_bound_paper(FREE, BLOCK, 2, (0, pairs, None)), True)
        self.assertIs(is_bound_paper(FREE, BLOCK, 2, (31, pairs, "a")), False)

    def test_errors(self):
        for wrong in [*spoiled(LESS), None]:
            self.assertRaises(errors.InvalidMachine, is_bound_paper, wrong, None, None, None)
            self.assertRaises(errors.InvalidMachine, is_bound_paper, LESS, wrong, None, None)
        self.assertRaises(errors.InvalidOperation, is_bound_paper, LESS, OTHER, None, None)
        for cap in WRONG + NOTHING + [31, "1"]:
            with self.assertRaises(errors.InvalidNumber) as caught:
                is_bound_paper(LESS, MOST, cap, None)
            self.assertIs(caught.exception.value, cap)
