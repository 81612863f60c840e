"""What the document promises over the whole program, and the statements of which it says that they are wrong."""

import itertools
import random
import unittest

from openlimit.errors import TooLarge
from openlimit.machines.machines import make_machine, plain_of
from openlimit.machines.needs import need
from openlimit.machines.operations import either, summed
from openlimit.patterns.compiled import machine_of, pattern_rate, pattern_verdict
from openlimit.tables.grades import table_of, value_of
from openlimit.tables.recipes import ceiling, fits, pump_recipe, tables_in, then_recipe, word_recipe
from openlimit.tables.written import price_of, row_of_written, written_of
from openlimit.verdicts.bounds import bound_paper, is_bound_paper, rate
from openlimit.verdicts.verdicts import is_bounded, is_verdict, never_word, verdict
from tests.helper import BLOCK, LESS, MOST, TOTAL, some_machine, some_patterns, words_to

FREE = plain_of(TOTAL)
# First some a, then some b.
SORTED = make_machine("ab", 2, (0, "a", 0, 0, 0), (0, "b", 0, 0, 1), (1, "b", 0, 0, 1), finals=(0, 1))
# Letters a alone, or letters b alone.
ALONE = make_machine("ab", 2, (0, "a", 0, 0, 0), (1, "b", 0, 0, 1), starts=(0, 1), finals=(0, 1))
WORDS = words_to("ab", 6)


class GuaranteeTests(unittest.TestCase):
    def check_pair(self, first, second):
        """Exactly one of the two kinds of papers exists, and each one that is found is right."""
        paper = verdict(first, second)
        self.assertTrue(is_verdict(first, second, paper))
        if paper[0] == "closed":
            self.assertIsNone(never_word(first, second))
            for cap in (0, 1, 3):
                found = bound_paper(first, second, cap)
                self.assertTrue(is_bound_paper(first, second, cap, found))
                for word in WORDS:
                    least = need(second, word)
                    if least is not None and least <= cap:
                        self.assertLessEqual(need(first, word), found[0])
        elif paper[0] == "never":
            self.assertEqual((need(first, paper[1]), need(second, paper[1]) is None), (None, False))
        else:
            for number in (1, 2, 5):
                written = written_of(paper[1], number, max(first[1], second[1]))
                most = ceiling(paper[1], second)
                self.assertEqual([row_of_written(first, number, written)[final] for final in first[3]], [None] * len(first[3]))
                if most <= 30:
                    row = row_of_written(second, most, written)
                    self.assertTrue(any(row[final] is not None for final in second[3]))
        return paper[0]

    def test_machines(self):
        machines = [BLOCK, TOTAL, MOST, LESS, FREE, SORTED, ALONE] + [some_machine(seed, "ab", 2, 6) for seed in range(10)]
        kinds = {self.check_pair(*pair) for pair in itertools.product(machines, repeat=2)}
        self.assertEqual(kinds, {"closed", "never", "grows"})

    def test_patterns(self):
        patterns = some_patterns(60, 14, 4)
        for first, second in itertools.product(patterns, repeat=2):
            machines = machine_of(first, "ab"), machine_of(second, "ab")
            kind = self.check_pair(*machines)
            if first.letters + second.letters == "abab":
                self.assertEqual(pattern_verdict(first, second)[0], kind)
                if kind == "closed":
                    self.assertEqual(pattern_rate(first, second, 2), rate(*machines, 2))

    def test_rates_rise_and_compose(self):
        draw = random.Random(1)
        machines = [BLOCK, TOTAL, MOST, LESS, FREE] + [some_machine(seed, "ab", 2, 5) for seed in range(12)]
        for _ in range(150):
            one, two, three = [draw.choice(machines) for _ in range(3)]
            if is_bounded(one, two) and is_bounded(two, three):
                self.assertTrue(is_bounded(one, three))
                try:
                    through = [rate(one, two, rate(two, three, cap)) for cap in range(4)]
                except TooLarge:
                    continue
                straight = [rate(one, three, cap) for cap in range(4)]
                self.assertEqual(straight, sorted(straight))
                self.assertTrue(all(low <= high for low, high in zip(straight, through)))


class WrongStatementTests(unittest.TestCase):
    """The statements of [0.14], each with an example against it."""

    def test_paid_loops(self):
        # Each loop on ab pays, and the needs of (ab) ** k stay 1.
        self.assertEqual(value_of(BLOCK, tables_in(word_recipe("ab"), BLOCK)[0]), "restart")
        self.assertEqual([need(BLOCK, "ab" * many) for many in (1, 9, 90)], [1, 1, 1])
        self.assertEqual(table_of(BLOCK, "a"), (("paid",),))

    def test_one_pump(self):
        both = then_recipe(pump_recipe(word_recipe("a")), pump_recipe(word_recipe("b")))
        machines = LESS, SORTED
        self.assertTrue(is_verdict(*machines, ("grows", both)))
        words = [word for word in words_to("ab", 3) if word]
        single = []
        for one, two, three in itertools.product(["", *words[:6]], words, ["", *words[:6]]):
            recipe = pump_recipe(word_recipe(two))
            recipe = then_recipe(word_recipe(one), recipe) if one else recipe
            single.append(then_recipe(recipe, word_recipe(three)) if three else recipe)
        self.assertFalse(any(fits(recipe, *machines) and is_verdict(*machines, ("grows", recipe)) for recipe in single))

    def test_some_limit_for_each_text(self):
        self.assertTrue(all(need(TOTAL, word) is not None for word in WORDS))
        self.assertEqual(verdict(TOTAL, FREE)[0], "grows")

    def test_turned_around(self):
        self.assertEqual([is_bounded(BLOCK, TOTAL), is_bounded(TOTAL, BLOCK)], [True, False])

    def test_lesser_needs(self):
        self.assertEqual([verdict(TOTAL, ALONE)[0], verdict(MOST, ALONE)[0]], ["grows", "grows"])
        self.assertTrue(is_bounded(either(TOTAL, MOST), ALONE))

    def test_equal_rates(self):
        whole = summed(TOTAL, MOST)
        self.assertEqual([rate(TOTAL, whole, cap) for cap in range(9)], [rate(MOST, whole, cap) for cap in range(9)])
        self.assertNotEqual(need(TOTAL, "aab"), need(MOST, "aab"))

    def test_rates_and_states(self):
        self.assertEqual([TOTAL[1], rate(TOTAL, TOTAL, 30)], [1, 30])

    def test_restarts(self):
        # Any meter of two states with so few steps is no mate of BLOCK: it grows where BLOCK does not, or the other way.
        draw = random.Random(2)
        for _ in range(300):
            steps = [
                (draw.randrange(2), draw.choice("ab"), 0, draw.randrange(2), draw.randrange(2)) for _ in range(draw.randint(2, 8))
            ]
            meter = make_machine("ab", 2, *steps, finals=(0, 1))
            self.assertFalse(is_bounded(BLOCK, meter) and is_bounded(meter, BLOCK))

    def test_never_words_beside_growth(self):
        less = make_machine("ab", 1, (0, "a", 0, 1, 0), finals=(0,))
        self.assertEqual(verdict(less, FREE), ("never", "b"))
        self.assertTrue(is_verdict(less, FREE, ("grows", pump_recipe(word_recipe("a")))))
        self.assertEqual(price_of(less, written_of(pump_recipe(word_recipe("a")), 5, 1)), 12)


if __name__ == "__main__":
    unittest.main()
