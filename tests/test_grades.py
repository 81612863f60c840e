"""[4.1] to [4.3]: grades and tables."""

import itertools
import random
import unittest

from openlimit import errors
from openlimit.machines.machines import machine_from, make_machine
from openlimit.tables import grades
from openlimit.tables.grades import (
    choice, is_idempotent, is_table, product, pumped, sequence, table_of, value_of,
)
from tests.helper import (
    BLOCK, GRADES, LESS, NOTHING, TOTAL, WRONG, best_of, full_machine, listed, plain_product, replaced, runs_on,
    some_machine, some_table, spoiled, worst_of, words_to,
)

TABLE = (("paid", "restart"), ("none", "dear"))


def wrong_tables(table):
    """Yield values that look like this table, and are none of its size."""
    yield from listed(table)
    for wrong in WRONG + NOTHING + ["Free", "paid ", "", "freepaid", 0, 2]:
        yield wrong
        yield from replaced(table, wrong)
    yield table + (table[0],)
    yield table[:-1]
    yield table[:-1] + (table[-1][:-1],)
    yield table[:-1] + (table[-1] + ("free",),)


def pumped_by_points(table):
    size = range(len(table))
    dear = {"paid": "dear"}
    return tuple(
        tuple(
            best_of([worst_of([table[i][k], dear.get(table[k][k], table[k][k]), table[k][j]]) for k in size])
            for j in size
        )
        for i in size
    )


def some_idempotent(draw, size):
    """Return an idempotent table among the powers of some table."""
    table = some_table(draw, size)
    power = table
    while plain_product(power, power) != power:
        power = plain_product(power, table)
    return power


class GradeTests(unittest.TestCase):
    def test_grades(self):
        self.assertEqual(grades.GRADES, ("restart", "free", "paid", "dear", "none"))

    def test_all_pairs_and_triples(self):
        for many in range(1, 4):
            for row in itertools.product(GRADES, repeat=many):
                self.assertEqual(choice(*row), best_of(row))
                self.assertEqual(sequence(*row), worst_of(row))
        self.assertEqual([choice(), sequence()], ["none", "free"])

    def test_errors(self):
        for wrong in WRONG + NOTHING + ["Free", "paid ", "", ("free",), 1]:
            for call in (choice, sequence):
                self.assertRaises(errors.InvalidOperation, call, wrong)
                self.assertRaises(errors.InvalidOperation, call, "free", "none", wrong)
                self.assertRaises(errors.InvalidOperation, call, wrong, "dear")


class TableTests(unittest.TestCase):
    def test_is_table(self):
        self.assertIs(is_table(2, TABLE), True)
        self.assertIs(is_table(1, TABLE), False)
        for size in (1, 8):
            for grade in GRADES:
                table = ((grade,) * size,) * size
                self.assertIs(is_table(size, table), True)
                self.assertIs(is_table(9 - size, table), False)
        for wrong in wrong_tables(TABLE):
            self.assertIs(is_table(2, wrong), False, wrong)
        for size in WRONG + NOTHING + [0, 9, "2", (2,)]:
            with self.assertRaises(errors.InvalidNumber) as caught:
                is_table(size, None)
            self.assertIs(caught.exception.value, size)

    def test_tables_of_letters(self):
        machine = make_machine(
            "ab", 3, (0, "a", 0, 0, 1), (0, "a", 1, 3, 1), (0, "a", 0, 1, 2), (0, "a", 0, 0, 2), (1, "a", 0, 3, 1),
            (2, "a", 0, 0, 0), (2, "b", 1, 0, 1),
        )
        none = "none"
        self.assertEqual(
            table_of(machine, "a"), ((none, "restart", "free"), (none, "paid", none), ("free", none, none))
        )
        self.assertEqual(table_of(machine, "b"), ((none,) * 3, (none,) * 3, (none, "restart", none)))
        self.assertEqual(table_of(("a", 1, (), (), ()), "a"), (("none",),))
        for wrong in [*spoiled(LESS), None]:
            self.assertRaises(errors.InvalidMachine, table_of, wrong, None)
        for letter in WRONG + NOTHING + ["", "ab", "c", ("a",)]:
            self.assertRaises(errors.InvalidWord, table_of, BLOCK, letter)

    def test_words_have_the_best_grades_of_their_runs(self):
        for seed in range(60):
            machine = some_machine(seed, most_steps=12)
            for word in words_to("ab", 4)[1:]:
                table = product(*[table_of(machine, letter) for letter in word])
                found = [["none"] * machine[1] for _ in range(machine[1])]
                for (begin, indices), end, _ in runs_on(machine, word):
                    steps = [machine[4][index] for index in indices]
                    grade = "restart" if any(step[2] for step in steps) else "paid" if any(
                        step[3] for step in steps) else "free"
                    found[begin][end] = best_of([found[begin][end], grade])
                self.assertEqual(table, tuple(tuple(row) for row in found))

    def test_values(self):
        self.assertEqual(value_of(LESS, TABLE), "restart")
        for seed in range(40):
            machine = some_machine(seed)
            table = some_table(random.Random(seed), machine[1])
            entries = [table[i][j] for i in machine[2] for j in machine[3]]
            self.assertEqual(value_of(machine, table), best_of(entries))
        self.assertEqual(value_of(("ab", 1, (), (0,), ()), (("free",),)), "none")
        self.assertEqual(value_of(("ab", 1, (0,), (), ()), (("free",),)), "none")
        for wrong in [*spoiled(LESS), None]:
            self.assertRaises(errors.InvalidMachine, value_of, wrong, None)
        for wrong in [*wrong_tables(TABLE), (("free",),), (("free",) * 3,) * 3]:
            self.assertRaises(errors.InvalidTable, value_of, LESS, wrong)


class ProductTests(unittest.TestCase):
    def test_products(self):
        draw = random.Random(4)
        for size in (1, 2, 3, 5, 8):
            for _ in range(30):
                tables = [some_table(draw, size) for _ in range(draw.randint(1, 4))]
                expected = tables[0]
                for table in tables[1:]:
                    expected = plain_product(expected, table)
                before = list(tables)
                self.assertEqual(product(*tables), expected)
                self.assertEqual(tables, before)
                self.assertIs(is_idempotent(tables[0]), plain_product(tables[0], tables[0]) == tables[0])
        self.assertEqual(product(TABLE), TABLE)

    def test_all_pairs_of_grades_in_products(self):
        for row in itertools.product(GRADES, repeat=4):
            left = ((row[0], row[1]), ("none", "none"))
            right = ((row[2], "none"), (row[3], "none"))
            expected = best_of([worst_of([row[0], row[2]]), worst_of([row[1], row[3]])])
            self.assertEqual(product(left, right)[0][0], expected)

    def test_pumped(self):
        draw = random.Random(5)
        for size in (1, 2, 3, 4, 8):
            for _ in range(60):
                table = some_idempotent(draw, size)
                self.assertIs(is_idempotent(table), True)
                self.assertEqual(pumped(table), pumped_by_points(table))

    def test_pumped_by_hand(self):
        self.assertEqual(pumped((("paid",),)), (("dear",),))
        self.assertEqual(pumped((("free",),)), (("free",),))
        self.assertEqual(pumped((("restart",),)), (("restart",),))
        # A run that stays in the free loop in the middle pays only twice.
        free = (("paid", "paid", "paid"), ("none", "free", "paid"), ("none", "none", "paid"))
        self.assertEqual(pumped(free), (("dear", "paid", "paid"), ("none", "free", "paid"), ("none", "none", "dear")))
        # Restarts do not help beside loops that must pay.
        self.assertEqual(pumped((("paid", "restart"), ("none", "paid"))), (("dear", "dear"), ("none", "dear")))
        self.assertEqual(
            pumped((("paid", "restart"), ("none", "restart"))), (("dear", "restart"), ("none", "restart"))
        )

    def test_not_idempotent(self):
        for table in ((("none", "free"), ("free", "none")), (("none", "paid"), ("none", "none"))):
            self.assertIs(is_idempotent(table), False)
            self.assertRaises(errors.InvalidOperation, pumped, table)

    def test_wrong_tables(self):
        nine = (("none",) * 9,) * 9
        for wrong in [*wrong_tables(TABLE), (), nine]:
            for call in (product, is_idempotent, pumped):
                self.assertRaises(errors.InvalidTable, call, wrong)
            self.assertRaises(errors.InvalidTable, product, TABLE, TABLE, wrong)
        self.assertRaises(errors.InvalidTable, product, TABLE, (("free",),))
        self.assertRaises(errors.InvalidTable, product, (("free",),), TABLE)
        self.assertRaises(errors.InvalidTable, product, (("free",),), (("free",),), TABLE)
        self.assertEqual(len(product((("none",) * 8,) * 8)), 8)

    def test_tables_of_machines(self):
        self.assertEqual(table_of(TOTAL, "a"), (("paid",),))
        machine = full_machine()
        word = [table_of(machine, letter) for letter in "abcdabcd"]
        self.assertEqual(product(*word), product(product(*word[:3]), product(*word[3:])))
        same = machine_from(machine[0], 8, machine[4][::-1], machine[2], machine[3])
        self.assertEqual(table_of(same, "d"), table_of(machine, "d"))
