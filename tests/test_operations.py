import itertools
import random
import unittest

from openlimit.errors import InvalidMachine, InvalidNumber, InvalidOperation, TooLarge
from openlimit.machines.machines import is_machine, machine_from, make_machine, plain_of
from openlimit.machines.needs import need
from openlimit.machines.operations import (
    added, backwards, either, followed, iterated, renamed, restricted, scaled, summed,
)
from openlimit.verdicts.bounds import rate
from openlimit.verdicts.verdicts import is_bounded
from tests.helper import BLOCK, LESS, MOST, NOTHING, TOTAL, WRONG, some_machine, spoiled, words_to

WORDS = words_to("ab", 5)
# A machine without starts, finals or steps, and one that accepts the empty word alone.
BARE = ("ab", 1, (), (), ())
POINT = ("ab", 1, (0,), (0,), ())
OTHER = ("ac", 1, (0,), (0,), ())
FULL = make_machine("ab", 8, finals=(7,))
TWO = [either, followed, added, summed, restricted]


def some_meter(seed, states=2, steps=6):
    alphabet, size, starts, finals, found = some_machine(seed, "ab", states, steps)
    return machine_from(alphabet, size, tuple((step[0], step[1], 0, step[3] % 2, step[4]) for step in found), starts, finals)


def many_steps(many, size=8):
    """Return a plain machine with so many steps, all from the start 0 first."""
    steps = [(state, letter, 0, 0, goal) for state in range(size) for letter in "ab" for goal in range(size)]
    return machine_from("ab", size, tuple(steps[:many]), (0,), (0,))


def least(needs):
    return min((value for value in needs if value is not None), default=None)


def splits(word):
    return [(word[:at], word[at:]) for at in range(len(word) + 1)]


def parts_of(word):
    """Return all ways to cut the word into parts that are not empty."""
    if word == "":
        return [[]]
    return [[word[:at], *rest] for at in range(1, len(word) + 1) for rest in parts_of(word[at:])]


def joined(combine, needs):
    return None if None in needs else combine(needs)


class TableTests(unittest.TestCase):
    def check_needs(self, machine, told):
        self.assertTrue(is_machine(machine))
        for word in WORDS:
            self.assertEqual(need(machine, word), told(word), (machine, word))

    def test_either(self):
        for seed in range(40):
            machines = [some_machine(seed + 100 * place, "ab", 2, 6) for place in range(1 + seed % 3)]
            found = either(*machines)
            self.assertEqual(found[1], sum(machine[1] for machine in machines))
            self.check_needs(found, lambda word: least([need(machine, word) for machine in machines]))
        self.assertEqual(either(BLOCK), BLOCK)
        self.assertEqual(
            either(BLOCK, LESS, POINT),
            ("ab", 4, (0, 1, 2, 3), (0, 1, 2, 3), (
                (0, "a", 0, 1, 0), (0, "b", 1, 0, 0), (1, "a", 0, 1, 1), (1, "b", 0, 0, 1),
                (2, "a", 0, 0, 2), (2, "b", 0, 1, 2),
            )),
        )

    def test_followed(self):
        self.assertEqual(
            followed(make_machine("ab", 2, (0, "a", 0, 2, 1), finals=(1,)), make_machine("ab", 2, (0, "b", 0, 3, 1), finals=(1,))),
            ("ab", 4, (0,), (3,), ((0, "a", 0, 2, 1), (1, "b", 1, 3, 3), (2, "b", 0, 3, 3))),
        )
        self.assertEqual(
            followed(BLOCK, MOST),
            ("ab", 2, (0, 1), (0, 1), (
                (0, "a", 0, 1, 0), (0, "a", 1, 0, 1), (0, "b", 1, 0, 0), (0, "b", 1, 1, 1),
                (1, "a", 0, 0, 1), (1, "b", 0, 1, 1),
            )),
        )
        for seed in range(60):
            one, other = some_machine(seed, "ab", 3, 7), some_machine(seed + 500, "ab", 3, 7)
            self.check_needs(followed(one, other), lambda word: least(
                [joined(max, [need(one, u), need(other, v)]) for u, v in splits(word)]
            ))

    def test_added(self):
        for seed in range(60):
            one, other = some_meter(seed, 3), some_meter(seed + 500, 3)
            self.check_needs(added(one, other), lambda word: least(
                [joined(sum, [need(one, u), need(other, v)]) for u, v in splits(word)]
            ))
        self.assertEqual(
            added(TOTAL, make_machine("ab", 2, (0, "b", 0, 3, 1), finals=(1,))),
            ("ab", 3, (0, 1), (2,), (
                (0, "a", 0, 1, 0), (0, "b", 0, 0, 0), (0, "b", 0, 3, 2), (1, "b", 0, 3, 2),
            )),
        )

    def test_iterated(self):
        self.assertEqual(
            iterated(make_machine("ab", 2, (0, "a", 0, 2, 1), (0, "b", 1, 3, 1), finals=(1,))),
            ("ab", 3, (2,), (1, 2), (
                (0, "a", 0, 2, 1), (0, "b", 1, 3, 1), (1, "a", 1, 2, 1), (1, "b", 1, 3, 1), (2, "a", 1, 2, 1), (2, "b", 1, 3, 1),
            )),
        )
        self.assertEqual(iterated(BARE), ("ab", 2, (1,), (1,), ()))
        for seed in range(60):
            machine = some_machine(seed, "ab", 3, 8)
            self.check_needs(iterated(machine), lambda word: least(
                [joined(max, [0, *[need(machine, part) for part in parts]]) for parts in parts_of(word)]
            ))

    def test_summed(self):
        self.assertEqual(
            summed(TOTAL, make_machine("ab", 2, (0, "a", 0, 2, 1), (1, "b", 0, 1, 0), finals=(0, 1))),
            ("ab", 2, (0,), (0, 1), ((0, "a", 0, 3, 1), (1, "b", 0, 1, 0))),
        )
        for seed in range(60):
            one, other = some_meter(seed), some_meter(seed + 500, 3)
            self.check_needs(summed(one, other), lambda word: joined(sum, [need(one, word), need(other, word)]))

    def test_restricted(self):
        self.assertEqual(
            restricted(BLOCK, make_machine("ab", 2, (0, "a", 1, 0, 1), (1, "b", 1, 0, 0), finals=(0,))),
            ("ab", 2, (0,), (0,), ((0, "a", 0, 1, 1), (1, "b", 1, 0, 0))),
        )
        for seed in range(60):
            one, other = some_machine(seed, "ab", 2, 7), plain_of(some_machine(seed + 500, "ab", 3, 7))
            self.check_needs(restricted(one, other), lambda word: need(one, word) if need(other, word) == 0 else None)

    def test_renamed(self):
        self.assertEqual(renamed(BLOCK, {"b": "a", "a": "z"}), ("az", 1, (0,), (0,), ((0, "a", 1, 0, 0), (0, "z", 0, 1, 0))))
        self.assertEqual(renamed(make_machine("ab", 1, (0, "a", 0, 1, 0), (0, "b", 0, 1, 0)), {"a": "q", "b": "q"}),
                         ("q", 1, (0,), (), ((0, "q", 0, 1, 0),)))
        for seed in range(60):
            machine = some_machine(seed, "abc", 3, 8)
            letters = [{"a": "b", "b": "b", "c": "a"}, {"c": "a", "b": "b", "a": "a"}][seed % 2]
            found = renamed(machine, letters)
            self.assertEqual(found[0], "ab")
            words = words_to("abc", 4)
            for word in words_to("ab", 4):
                before = [old for old in words if "".join(letters[letter] for letter in old) == word]
                self.assertEqual(need(found, word), least([need(machine, old) for old in before]))

    def test_backwards(self):
        self.assertEqual(
            backwards(make_machine("ab", 3, (0, "a", 0, 2, 1), (1, "b", 0, 1, 2), starts=(0, 1), finals=(2,))),
            ("ab", 3, (2,), (0, 1), ((1, "a", 0, 2, 0), (2, "b", 0, 1, 1))),
        )
        for seed in range(60):
            machine = some_meter(seed, 4, 10)
            self.check_needs(backwards(machine), lambda word: need(machine, word[::-1]))

    def test_scaled(self):
        self.assertEqual(scaled(BLOCK, 3)[4], ((0, "a", 0, 3, 0), (0, "b", 1, 0, 0)))
        self.assertEqual(scaled(make_machine("a", 1, (0, "a", 0, 2, 0), (0, "a", 0, 3, 0)), 0)[4], ((0, "a", 0, 0, 0),))
        for seed in range(40):
            for factor in range(4):
                machine = scaled(some_meter(seed), 1)
                if seed % 2:
                    machine = followed(machine, machine)
                found = scaled(machine, factor)
                self.check_needs(found, lambda word: joined(lambda one: one[0] * factor, [need(machine, word)]))

    def test_bare_machines(self):
        for call in TWO:
            for one, other in itertools.product((BARE, POINT), repeat=2):
                found = call(one, other)
                self.assertTrue(is_machine(found))
                accepted = (POINT in (one, other)) if call == either else (one == other == POINT)
                self.assertEqual(need(found, ""), 0 if accepted else None)
                self.assertIsNone(need(found, "a"))
        self.assertEqual(scaled(BARE, 3), BARE)
        self.assertEqual(backwards(BARE), BARE)
        self.assertEqual(renamed(BARE, {"a": "a", "b": "b"}), BARE)


class WrongTests(unittest.TestCase):
    def check_raises(self, error, value, call, *arguments):
        with self.assertRaises(error) as caught:
            call(*arguments)
        if error is TooLarge:
            self.assertEqual(caught.exception.limit, value)

    def test_wrong_machines(self):
        for wrong in spoiled(TOTAL):
            for call in TWO:
                self.assertRaises(InvalidMachine, call, wrong, OTHER)
                self.assertRaises(InvalidMachine, call, BLOCK, wrong)
            self.assertRaises(InvalidMachine, either, TOTAL, TOTAL, wrong)
            self.assertRaises(InvalidMachine, either, wrong)
            self.assertRaises(InvalidMachine, iterated, wrong)
            self.assertRaises(InvalidMachine, backwards, wrong)
            self.assertRaises(InvalidMachine, renamed, wrong, None)
            self.assertRaises(InvalidMachine, scaled, wrong, None)

    def test_order_of_errors(self):
        for call in TWO:
            self.assertRaises(InvalidOperation, call, FULL, OTHER)
        # The machines of `either` are looked at one by one.
        self.assertRaises(InvalidOperation, either, TOTAL, OTHER, None)
        self.assertRaises(InvalidMachine, either, TOTAL, None, OTHER)
        for call in (added, summed):
            self.assertRaises(InvalidOperation, call, BLOCK, FULL)
            self.assertRaises(InvalidOperation, call, FULL, BLOCK)
        self.assertRaises(InvalidOperation, restricted, FULL, scaled(either(*[TOTAL] * 8), 1))
        self.assertRaises(InvalidOperation, backwards, BLOCK)

    def test_letters(self):
        wrong = [
            {}, {"a": "a"}, {"a": "a", "b": "b", "c": "c"}, {"a": "a", "c": "b"}, {"a": "a", "b": "B"}, {"a": "", "b": "b"},
            {"a": "ab", "b": "b"}, {"a": None, "b": "b"}, {"a": ["a"], "b": "b"}, {"a": True, "b": "b"}, {0: "a", 1: "b"},
            {"a": {}, "b": "b"}, {True: "a", None: "b"}, (("a", "a"), ("b", "b")), "ab", ["a", "b"], {"a": 0, "b": "b"},
        ]
        for letters in wrong + WRONG + NOTHING:
            self.assertRaises(InvalidOperation, renamed, BLOCK, letters)
        letters = {"a": "b", "b": "b"}
        renamed(BLOCK, letters)
        self.assertEqual(letters, {"a": "b", "b": "b"})

    def test_factors(self):
        for factor in WRONG + NOTHING + [-1, 4, "1"]:
            with self.assertRaises(InvalidNumber) as caught:
                scaled(scaled(BLOCK, 3), factor)
            self.assertIs(caught.exception.value, factor)
        self.check_raises(TooLarge, 3, scaled, scaled(BLOCK, 2), 2)
        self.check_raises(TooLarge, 3, scaled, scaled(BLOCK, 3), 3)
        self.assertEqual(scaled(scaled(BLOCK, 3), 1), scaled(BLOCK, 3))

    def test_eight_states(self):
        four, five = many_steps(4, 4), many_steps(4, 5)
        self.assertEqual(either(four, four)[1], 8)
        self.assertEqual(followed(four, four)[1], 8)
        self.assertEqual(added(four, four)[1], 8)
        self.assertEqual(summed(four, many_steps(2, 2))[1], 8)
        self.assertEqual(restricted(four, many_steps(2, 2))[1], 8)
        self.assertEqual(iterated(many_steps(7, 7))[1], 8)
        for call in (either, followed, added):
            self.check_raises(TooLarge, 8, call, four, five)
            # Too many states go ahead of too many steps.
            self.check_raises(TooLarge, 8, call, many_steps(32, 4), many_steps(50, 5))
        for call in (summed, restricted):
            self.check_raises(TooLarge, 8, call, five, many_steps(2, 2))
            self.check_raises(TooLarge, 8, call, four, many_steps(18, 3))
        self.check_raises(TooLarge, 8, iterated, FULL)
        self.check_raises(TooLarge, 8, iterated, many_steps(60))

    def test_sixty_steps(self):
        def bundle(many):
            """A machine of two states and so many steps, none of them from the start."""
            steps = [(1, letter, restart, cost, goal) for letter in "abcd" for restart in (0, 1) for cost in range(4)
                     for goal in (0, 1)]
            return machine_from("abcd", 2, tuple(steps[:many]), (0,), (0,))

        self.assertEqual(len(either(bundle(30), bundle(30))[4]), 60)
        self.check_raises(TooLarge, 60, either, bundle(31), bundle(30))
        self.assertEqual(len(followed(bundle(30), bundle(30))[4]), 60)
        self.check_raises(TooLarge, 60, followed, bundle(30), bundle(31))
        # Each step from a start of the second one comes again behind the final of the first one.
        enters = make_machine("abcd", 1, (0, "a", 0, 0, 0), finals=(0,))
        self.assertEqual(len(followed(bundle(58), enters)[4]), 60)
        self.check_raises(TooLarge, 60, followed, bundle(59), enters)
        self.assertEqual(len(iterated(machine_from("abcd", 2, bundle(56)[4] + ((0, "a", 0, 0, 0),), (0,), (0,)))[4]), 59)
        wide = machine_from("abcd", 2, bundle(58)[4] + ((0, "a", 0, 0, 0),), (0,), (0,))
        self.check_raises(TooLarge, 60, iterated, wide)
        ones = machine_from("ab", 2, tuple((p, "a", 0, 0, q) for p in (0, 1) for q in (0, 1)), (0,), (0,))
        sixteen = machine_from("ab", 4, tuple((p, "a", 0, 0, q) for p in range(4) for q in range(4)), (0,), (0,))
        fifteen = machine_from("ab", 4, sixteen[4][1:], (0,), (0,))
        for call in (summed, restricted):
            self.assertEqual(len(call(fifteen, ones)[4]), 60)
            self.check_raises(TooLarge, 60, call, sixteen, ones)

    def test_costs(self):
        dear = scaled(TOTAL, 3)
        self.assertEqual(summed(scaled(TOTAL, 2), TOTAL), dear)
        self.check_raises(TooLarge, 3, summed, dear, TOTAL)
        ones = machine_from("ab", 2, tuple((p, "a", 0, 3, q) for p in (0, 1) for q in (0, 1)), (0,), (0,))
        sixteen = machine_from("ab", 4, tuple((p, "a", 0, 3, q) for p in range(4) for q in range(4)), (0,), (0,))
        self.check_raises(TooLarge, 60, summed, ones, sixteen)
        self.check_raises(TooLarge, 3, summed, ones, ones)
        # Steps that become equal count once.
        costs = machine_from("ab", 2, tuple((p, s, 0, c, q) for p in (0, 1) for s in "ab" for c in range(4) for q in (0, 1)), (0,), (0,))
        self.assertEqual(len(scaled(costs, 0)[4]), 8)
        self.check_raises(TooLarge, 3, scaled, costs, 2)


class PromiseTests(unittest.TestCase):
    def pairs(self, many=60):
        """Return some pairs of machines of which the first one is bounded by the second one."""
        found = []
        draw = random.Random(3)
        pool = [BLOCK, TOTAL, MOST, LESS] + [some_machine(seed, "ab", 2, 5) for seed in range(40)]
        while len(found) < many:
            one, other = draw.choice(pool), draw.choice(pool)
            if is_bounded(one, other):
                found.append((one, other))
        return found

    def test_either_is_bounded(self):
        draw = random.Random(4)
        pool = [BLOCK, TOTAL, MOST, LESS] + [some_machine(seed, "ab", 2, 5) for seed in range(20)]
        for one, other in self.pairs(25):
            third = draw.choice(pool)
            self.assertTrue(is_bounded(either(one, third), other))
            self.assertLessEqual(rate(either(one, third), other, 2), rate(one, other, 2))
            whole = is_bounded(third, one) and is_bounded(third, other)
            self.assertEqual(is_bounded(third, either(one, other)), whole)

    def test_operations_keep_bounds(self):
        pairs = self.pairs(12)
        plain = plain_of(some_machine(9, "ab", 2, 6))
        for one, other in pairs:
            self.assertTrue(is_bounded(iterated(one), iterated(other)))
            self.assertTrue(is_bounded(restricted(one, plain), restricted(other, plain)))
            for letters in ({"a": "a", "b": "a"}, {"a": "b", "b": "a"}):
                self.assertTrue(is_bounded(renamed(one, letters), renamed(other, letters)))
        for (one, other), (late, last) in zip(pairs[:6], pairs[6:]):
            self.assertTrue(is_bounded(followed(one, late), followed(other, last)))


if __name__ == "__main__":
    unittest.main()
