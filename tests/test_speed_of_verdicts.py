"""Closures, closed sets, rates and products that are asked again and again: their answers, and how long they take."""

import itertools
import random
import unittest

from openlimit.errors import TooLarge
from openlimit.machines.needs import need
from openlimit.tables.closures import closure, closure_recipe, is_closed
from openlimit.tables.grades import product, pumped, table_of, value_of
from openlimit.tables.recipes import tables_in
from openlimit.verdicts.bounds import bound_paper, is_bound_paper, rate
from openlimit.verdicts.rates import rates
from openlimit.verdicts.verdicts import is_bounded, verdict
from tests.helper import (
    BLOCK, LESS, MOST, TOTAL, is_within, plain_product, some_machine, some_table, words_to,
)

EACH = ("a", 1, (0,), (0,), ((0, "a", 0, 1, 0),))
DEAR = ("ab", 1, (0,), (0,), ((0, "a", 0, 3, 0), (0, "b", 0, 0, 0)))
PLAIN = ("a", 1, (0,), (0,), ((0, "a", 0, 0, 0),))
TABLE = (("paid", "none"), ("none", "free"))


def cycle(size, sign):
    """Return the machine that goes from each state to the next one with this letter, and stays with the others."""
    steps = [(state, letter, 0, 0, (state + (letter == sign)) % size) for state in range(size) for letter in "abcd"]
    return ("abcd", size, (0,), (0,), tuple(sorted(steps)))


CYCLES = (cycle(5, "a"), cycle(5, "b"), cycle(4, "c"), cycle(3, "d"))


def turn_table(size, turn):
    """Return the table of a cycle behind so many turns."""
    return tuple(
        tuple("free" if (state + turn) % size == goal else "none" for goal in range(size)) for state in range(size)
    )


def grade_tuples():
    """Return all tuples of five tables of one state, with the grades that the issue names, ascending."""
    grades = [("free", "none", "restart")] * 4 + [("dear", "free", "none", "restart")]
    return tuple(sorted(tuple(((grade,),) for grade in entry) for entry in itertools.product(*grades)))


class AnswerTests(unittest.TestCase):
    def test_closure_of_cycles(self):
        turns = itertools.product(*[range(machine[1]) for machine in CYCLES])
        told = tuple(sorted(
            tuple(turn_table(machine[1], turn) for machine, turn in zip(CYCLES, entry)) for entry in turns
        ))
        self.assertEqual(len(told), 300)
        self.assertEqual([closure(*CYCLES), closure(*CYCLES, most=300)], [told, told])
        recipe = closure_recipe(*CYCLES)
        self.assertEqual([len(recipe), recipe[:3]], [300, (("letter", "a"), ("then", 0, 0), ("then", 1, 0))])
        for place in (0, 3, 4, 5, 24, 25, 99, 299):
            self.assertIn(tables_in(recipe[:place + 1], *CYCLES), told)
        self.assertEqual(len({tables_in(recipe[:place + 1], *CYCLES) for place in range(0, 300, 7)}), 43)
        self.assertIs(is_closed(told, *CYCLES), True)
        self.assertIs(is_closed(told[1:], *CYCLES), False)
        self.assertIs(is_closed(told[:-1], *CYCLES), False)

    def test_limits_of_closures(self):
        for call in (closure, closure_recipe):
            for machines, most in ((CYCLES[:3] + (cycle(4, "d"),), 300), (CYCLES, 299), (CYCLES[:2], 24), (CYCLES[:1], 4)):
                with self.assertRaises(TooLarge) as caught:
                    call(*machines, most=most)
                self.assertEqual(caught.exception.limit, most)
                self.assertEqual(len(call(*machines[:1], most=5)), 5)
        self.assertEqual([len(closure(*CYCLES[:2], most=25)), len(closure(*CYCLES[:1], most=5))], [25, 5])

    def test_closed_set_of_grades(self):
        value = grade_tuples()
        self.assertEqual(len(value), 324)
        self.assertIs(is_closed(value, *[PLAIN] * 5), True)
        found = []
        for place in [0, 1, 2, 3, 4, 100, 137, 162, 222, 244, 299, 323]:
            less = value[:place] + value[place + 1:]
            found.append(is_closed(less, *[PLAIN] * 5))
            self.assertIs(found[-1], is_closed_by_pairs(less))
        self.assertIn(True, found)
        self.assertIn(False, found)
        self.assertIs(is_closed(value, *[PLAIN] * 4), False)
        self.assertIs(is_closed(value[::-1], *[PLAIN] * 5), False)
        self.assertIs(is_closed(value + value[-1:], *[PLAIN] * 5), False)

    def test_words_of_rates(self):
        """Each word is the first one that needs more than the number before the rate, as bound_paper has it."""
        cases = [(EACH, EACH), (DEAR, TOTAL), (BLOCK, TOTAL), (LESS, MOST), (LESS, TOTAL)]
        cases += [(machine, machine) for machine in (some_machine(seed, "ab", 2, 6) for seed in range(30))]
        for first, second in cases:
            words = words_to(first[0], 6)
            try:
                for cap, number, word in rates(first, second, until=9):
                    paper = bound_paper(first, second, cap)
                    self.assertEqual((number, word), (paper[0], paper[2]))
                    self.assertTrue(is_bound_paper(first, second, cap, paper))
                    if word is not None and len(word) <= 6:
                        self.assertEqual(word, next(other for other in words if is_dear(first, second, cap, number, other)))
            except TooLarge as error:
                self.assertEqual(error.limit, 30)
                with self.assertRaises(TooLarge):
                    rate(first, second, 9)

    def test_rates(self):
        self.assertEqual(list(rates(EACH, EACH)), [(0, 0, None)] + [(cap, cap, "a" * cap) for cap in range(1, 31)])
        self.assertEqual(list(rates(DEAR, TOTAL, until=10)), [(0, 0, None)] + [(cap, 3 * cap, "a" * cap) for cap in range(1, 11)])
        some = rates(DEAR, TOTAL)
        self.assertEqual(len([next(some) for _ in range(11)]), 11)
        with self.assertRaises(TooLarge) as caught:
            next(some)
        self.assertEqual(caught.exception.limit, 30)

    def test_products(self):
        draw = random.Random(2)
        for _ in range(300):
            size = draw.randint(1, 4)
            tables = [some_table(draw, size) for _ in range(3)]
            self.assertEqual(product(*tables[:2]), plain_product(*tables[:2]))
            self.assertEqual(product(*tables), plain_product(plain_product(*tables[:2]), tables[2]))


def is_closed_by_pairs(value):
    """Return whether the set of tuples of tables of one state has the letter and all products, told pair by pair."""
    ranks = {"free": 0, "restart": 1, "dear": 2, "none": 3}
    rows = [tuple(ranks[table[0][0]] for table in entry) for entry in value]
    known = set(rows)
    return (0,) * 5 in known and all(tuple(map(max, one, other)) in known for one in rows for other in rows)


def is_dear(first, second, cap, number, word):
    """Return whether the word has a need of at most the cap in the second machine, and none below the number."""
    least, other = need(first, word), need(second, word)
    return other is not None and other <= cap and (least is None or least >= number)


class TimeTests(unittest.TestCase):
    """Each limit stands between the time that was measured and that of the program before; both are in the comments."""

    def check_time(self, call, many):
        """The call takes less than so many times the plain work."""
        self.assertTrue(is_within(call, many))

    def test_closures(self):
        # 0.6, 0.45 and 1.3 times the plain work; before tuples were made of numbered tables 6, 4 and 13 times.
        value = grade_tuples()
        self.check_time(lambda: closure(*CYCLES), 2)
        self.check_time(lambda: closure_recipe(*CYCLES), 1.5)
        self.check_time(lambda: is_closed(value, *[PLAIN] * 5), 4)

    def test_rates(self):
        # 1.1 and 0.4 times the plain work; before each cap began where the last one ended 11 and 1.4 times.
        self.check_time(lambda: list(rates(EACH, EACH)), 3.5)
        self.check_time(lambda: list(rates(DEAR, TOTAL, until=10)), 0.9)

    def test_tables(self):
        # 1.4, 1.3, 1.3 and 1.7 times the plain work; before 2.5, 2.5, 2.4 and 3.8 times.
        self.check_time(lambda: [product(TABLE, TABLE) for _ in range(1000)], 2.2)
        self.check_time(lambda: [value_of(LESS, TABLE) for _ in range(1000)], 2.2)
        self.check_time(lambda: [table_of(LESS, "a") for _ in range(1000)], 2.2)
        self.check_time(lambda: [pumped(TABLE) for _ in range(1000)], 3.2)

    def test_verdicts(self):
        # 1.5 and 1.3 times the plain work; before 3.2 and 2.6 times.
        self.check_time(lambda: [verdict(LESS, MOST) for _ in range(30)], 3)
        self.check_time(lambda: [is_bounded(LESS, MOST) for _ in range(30)], 2.5)


if __name__ == "__main__":
    unittest.main()
