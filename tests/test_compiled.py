import random
import unittest

from openlimit.errors import (
    InvalidMachine, InvalidNumber, InvalidOperation, InvalidPattern, TooLarge, Unlimited,
)
from openlimit.machines.machines import is_machine
from openlimit.machines.needs import need
from openlimit.patterns.compiled import machine_of, pattern_rate, pattern_verdict
from openlimit.patterns.patterns import Either, Empty, Letter, Pattern, Series, Star, Upto
from openlimit.verdicts.bounds import rate
from openlimit.verdicts.verdicts import is_verdict, verdict
from tests.helper import (
    NO_PATTERNS, NOTHING, WRONG, least_seconds, need_by_numbers, slowness, some_patterns, words_to,
)

A, B, C, D, E = [Letter(sign) for sign in "abcde"]


def ways_of(pattern, at=1, limit=None):
    """Return what [11.1] asks of the pattern whose first place has this number, told limit by limit.

    That is the dict from places to (letter, name of its limit), whether the empty text matches, the sets of first and
    last places, and the set of (i, j, kind) where the kind is "round", "next" or the name of the part around.
    """
    if isinstance(pattern, Letter):
        return {at: (str(pattern), limit)}, False, {at}, {at}, set()
    if isinstance(pattern, Empty):
        return {}, True, set(), set(), set()
    if isinstance(pattern, (Star, Upto)):
        inner = at if isinstance(pattern, Upto) else limit
        signs, _, firsts, lasts, links = ways_of(pattern.pieces[0], at, inner)
        kind = "next" if isinstance(pattern, Upto) else ("around", limit)
        return signs, True, firsts, lasts, links | {(i, j, kind) for i in lasts for j in firsts}
    first, second = pattern.pieces
    one = ways_of(first, at, limit)
    other = ways_of(second, at + first.places, limit)
    signs, links = {**one[0], **other[0]}, one[4] | other[4]
    if isinstance(pattern, Either):
        return signs, one[1] or other[1], one[2] | other[2], one[3] | other[3], links
    links |= {(i, j, ("around", limit)) for i in one[3] for j in other[2]}
    firsts = one[2] | other[2] if one[1] else one[2]
    lasts = one[3] | other[3] if other[1] else other[3]
    return signs, one[1] and other[1], firsts, lasts, links


def machine_by_words(pattern, alphabet):
    """Return the machine of the pattern, made after the words of the document."""
    signs, empty, firsts, lasts, links = ways_of(pattern)
    steps = set()
    for j in firsts:
        costs = (0, 0) if signs[j][1] is None else (1, 1)
        steps.add((0, signs[j][0], *costs, j))
    for i, j in {(i, j) for i, j, _ in links}:
        kinds = {kind for one, other, kind in links if (one, other) == (i, j)}
        around = {kind[1] for kind in kinds if kind != "next"}
        # The limit of j is entered where the way leads through a part outside of it.
        if signs[j][1] is not None and any(name != signs[j][1] for name in around):
            costs = (1, 1)
        elif around:
            costs = (0, 0)
        else:
            costs = (0, 1)
        steps.add((i, signs[j][0], *costs, j))
    finals = sorted(lasts | ({0} if empty else set()))
    return (alphabet, pattern.places + 1, (0,), tuple(finals), tuple(sorted(steps)))


class MachineTests(unittest.TestCase):
    def test_each_class(self):
        self.assertEqual(machine_of(A, "a"), ("a", 2, (0,), (1,), ((0, "a", 0, 0, 1),)))
        self.assertEqual(machine_of(Empty(), "bc"), ("bc", 1, (0,), (0,), ()))
        self.assertEqual(machine_of(A + B, "ab"), ("ab", 3, (0,), (2,), ((0, "a", 0, 0, 1), (1, "b", 0, 0, 2))))
        self.assertEqual(machine_of(A | B, "abz"), ("abz", 3, (0,), (1, 2), ((0, "a", 0, 0, 1), (0, "b", 0, 0, 2))))
        self.assertEqual(machine_of(~A, "a"), ("a", 2, (0,), (0, 1), ((0, "a", 0, 0, 1), (1, "a", 0, 0, 1))))
        self.assertEqual(machine_of(A.upto(), "a"), ("a", 2, (0,), (0, 1), ((0, "a", 1, 1, 1), (1, "a", 0, 1, 1))))

    def test_limits(self):
        self.assertEqual(machine_of(~A.upto(), "a")[4], ((0, "a", 1, 1, 1), (1, "a", 1, 1, 1)))
        self.assertEqual(machine_of((~A).upto(), "a")[4], ((0, "a", 1, 1, 1), (1, "a", 0, 0, 1)))
        self.assertEqual(
            machine_of(A.upto() + B.upto(), "ab")[3:],
            ((0, 1, 2), ((0, "a", 1, 1, 1), (0, "b", 1, 1, 2), (1, "a", 0, 1, 1), (1, "b", 1, 1, 2), (2, "b", 0, 1, 2))),
        )
        self.assertEqual(
            machine_of((A + B).upto(), "ab")[4], ((0, "a", 1, 1, 1), (1, "b", 0, 0, 2), (2, "a", 0, 1, 1)),
        )
        self.assertEqual(machine_of((A | Empty()).upto(), "a"), machine_of(A.upto(), "a"))
        self.assertEqual(
            machine_of(A.upto() + B, "ab")[4], ((0, "a", 1, 1, 1), (0, "b", 0, 0, 2), (1, "a", 0, 1, 1), (1, "b", 0, 0, 2)),
        )

    def test_step_by_step(self):
        for pattern in some_patterns(10, 400) + some_patterns(11, 300, 6, "abc"):
            for alphabet in (pattern.letters or "q", "abcz"):
                found = machine_of(pattern, alphabet)
                self.assertEqual(found, machine_by_words(pattern, alphabet), str(pattern))
                self.assertTrue(is_machine(found))

    def test_seven_places(self):
        inner = ((A | B) + ~A).upto() | ~(B + A)
        pattern = ~(inner + (A.upto() | Empty())) + Empty()
        self.assertEqual(pattern.places, 6)
        pattern = pattern + ~B
        self.assertEqual(machine_of(pattern, "ab"), machine_by_words(pattern, "ab"))
        seven = ~(A | B | A | B | A | B | A)
        self.assertEqual(len(machine_of(seven, "ab")[4]), 56)
        self.assertEqual(machine_of(seven.upto(), "ab"), machine_by_words(seven.upto(), "ab"))

    def test_needs(self):
        for pattern in some_patterns(12, 150):
            machine = machine_of(pattern, "ab")
            for word in words_to("ab", 5):
                self.assertEqual(need(machine, word), pattern(word), (str(pattern), word))
        for pattern in some_patterns(13, 60):
            machine = machine_of(pattern, "ab")
            for word in ("aababaab", "abbaaabaab", "aaaaaaaaaaa"):
                self.assertEqual(need(machine, word), need_by_numbers(pattern, word), (str(pattern), word))

    def test_errors(self):
        for wrong in NO_PATTERNS:
            self.assertRaises(InvalidPattern, machine_of, wrong, "ba")
        for wrong in WRONG + NOTHING + ["", "ba", "aa", "abcde", "aB", ("a",), 0]:
            self.assertRaises(InvalidMachine, machine_of, A, wrong)
            self.assertRaises(InvalidMachine, machine_of, Empty(), wrong)
        self.assertRaises(InvalidOperation, machine_of, A, "b")
        self.assertRaises(InvalidOperation, machine_of, A + B, "bc")
        self.assertEqual(machine_of(Pattern.read("(a|())"), "ab"), machine_of(A | Empty(), "ab"))


class PatternVerdictTests(unittest.TestCase):
    def test_verdicts(self):
        patterns = some_patterns(14, 14)
        for first in patterns:
            for second in patterns:
                alphabet = "".join(sorted(set(first.letters + second.letters))) or "a"
                machines = [machine_of(pattern, alphabet) for pattern in (first, second)]
                try:
                    found = verdict(*machines)
                except TooLarge:
                    self.assertRaises(TooLarge, pattern_verdict, first, second)
                    continue
                self.assertEqual(pattern_verdict(first, second), found)
                self.assertTrue(is_verdict(*machines, found))
                if found[0] == "closed":
                    for cap in (0, 2, 3):
                        self.assertEqual(pattern_rate(first, second, cap), rate(*machines, cap))
                else:
                    with self.assertRaises(Unlimited) as caught:
                        pattern_rate(first, second, 3)
                    self.assertEqual(caught.exception.paper, found)

    def test_letters(self):
        self.assertEqual(pattern_verdict(Empty(), Empty())[0], "closed")
        self.assertEqual(pattern_rate(Empty(), ~Empty(), 30), 0)
        self.assertEqual(pattern_verdict(A + B, C + D), ("never", "cd"))
        self.assertEqual(pattern_verdict(Empty(), A), ("never", "a"))
        for call in (pattern_verdict, lambda *two: pattern_rate(*two, None)):
            self.assertRaises(InvalidOperation, call, A + B, C + D + E)
            self.assertRaises(InvalidOperation, call, A + B + C + D, E)

    def test_most_and_caps(self):
        one, other = A.upto() + B, (A + A | A).upto() + B
        self.assertEqual(pattern_rate(one, other, 15), 30)
        with self.assertRaises(TooLarge) as caught:
            pattern_rate(one, other, 16)
        self.assertEqual(caught.exception.limit, 30)
        with self.assertRaises(TooLarge) as caught:
            pattern_verdict(one, other, most=2)
        self.assertEqual(caught.exception.limit, 2)
        with self.assertRaises(TooLarge) as caught:
            pattern_rate(one, other, 3, most=2)
        self.assertEqual(caught.exception.limit, 2)
        self.assertEqual(pattern_rate(one, other, 0, most=300), 0)

    def test_order_of_errors(self):
        for wrong in NO_PATTERNS:
            self.assertRaises(InvalidPattern, pattern_verdict, wrong, A, most=0)
            self.assertRaises(InvalidPattern, pattern_verdict, A, wrong, most=0)
            self.assertRaises(InvalidPattern, pattern_rate, wrong, A, None, most=0)
            self.assertRaises(InvalidPattern, pattern_rate, A + B + C + D, wrong, None, most=0)
        self.assertRaises(InvalidOperation, pattern_verdict, A + B + C + D, E, most=0)
        for wrong in (0, 301, True, None, "a", ()):
            with self.assertRaises(InvalidNumber) as caught:
                pattern_verdict(A, B, most=wrong)
            self.assertIs(caught.exception.value, wrong)
            self.assertRaises(InvalidNumber, pattern_rate, A, B, 0, most=wrong)
        for wrong in (-1, 31, True, None, "a", ()):
            with self.assertRaises(InvalidNumber) as caught:
                pattern_rate(A, B, wrong, most=0)
            self.assertIs(caught.exception.value, wrong)

    def test_greatest_patterns(self):
        wide = ~(A | B | C | D)
        limit = 2 * slowness()
        self.assertLess(least_seconds(lambda: pattern_verdict(wide, wide), 1), limit)
        draw = random.Random(15)
        for pattern in [draw.choice(some_patterns(seed, 5, 7, "abcd")) for seed in range(8)]:
            try:
                self.assertLess(least_seconds(lambda: pattern_verdict(pattern, wide), 1), limit)
            except TooLarge:
                pass


if __name__ == "__main__":
    unittest.main()
