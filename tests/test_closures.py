"""[6.1]: closures."""

import itertools
import random
import unittest

from openlimit import errors
from openlimit.machines.machines import make_machine
from openlimit.tables.closures import closure, closure_recipe, is_closed
from openlimit.tables.grades import is_idempotent, pumped, table_of
from openlimit.tables.recipes import fits, tables_in
from tests.helper import (
    BLOCK, GRADES, LESS, MOST, NOTHING, TOTAL, WRONG, fitting_recipes, full_machine, plain_product, replaced,
    some_machine, some_table, spoiled,
)

OTHER = make_machine("abc", 1)


def closure_by_search(machines, most=400):
    """Return the ascending tuple of the closure, found by multiplying all pairs, or None if it is greater."""
    found = {tuple(table_of(machine, letter) for machine in machines) for letter in machines[0][0]}
    new = set(found)
    while new and len(found) <= most:
        further = set()
        for one in new:
            for other in found:
                further.add(tuple(plain_product(a, b) for a, b in zip(one, other)))
                further.add(tuple(plain_product(b, a) for a, b in zip(one, other)))
            if all(is_idempotent(table) for table in one):
                further.add(tuple(pumped(table) for table in one))
        new = further - found
        found |= new
    return tuple(sorted(found)) if len(found) <= most else None


def is_closed_by_search(value, machines):
    known = set(value)
    if any(tuple(table_of(machine, letter) for machine in machines) not in known for letter in machines[0][0]):
        return False
    for one, other in itertools.product(value, repeat=2):
        if tuple(plain_product(a, b) for a, b in zip(one, other)) not in known:
            return False
    return all(
        tuple(pumped(table) for table in one) in known for one in value if all(is_idempotent(table) for table in one)
    )


# Its letters turn round five and three states, so its closure has as many tables as words of some length.
TURNING = make_machine(
    "ab", 8, *[(i, "a", 0, 0, (i + 1) % 5) for i in range(5)], *[(5 + i, "b", 0, 1, 5 + (i + 1) % 3) for i in range(3)],
    *[(i, "b", 0, 0, i) for i in range(5)], *[(5 + i, "a", 0, 0, 5 + i) for i in range(3)],
)


class ClosureTests(unittest.TestCase):
    def test_against_a_search(self):
        for seed in range(60):
            many = 1 + seed % 4
            machines = [some_machine(seed + 100 * place, most_states=2, most_steps=5) for place in range(many)]
            expected = closure_by_search(machines, 40)
            if expected is not None:
                self.assertEqual(closure(*machines), expected)
                self.check_recipe(machines, expected)
                self.assertIs(is_closed(expected, *machines), True)

    def check_recipe(self, machines, expected):
        recipe = closure_recipe(*machines)
        self.assertIs(fits(recipe, *machines), True)
        found = [tables_in(recipe[:place + 1], *machines) for place in range(len(recipe))]
        self.assertEqual(sorted(found), list(expected))

    def test_tables_of_all_recipes(self):
        for seed in range(30):
            machines = [some_machine(seed, most_states=3, most_steps=6), some_machine(seed + 50, most_states=2)]
            known = closure(*machines)
            for recipe in fitting_recipes(random.Random(seed), machines, 12):
                self.assertIn(tables_in(recipe, *machines), known)

    def test_recipes_of_greater_closures(self):
        for machines in ((TURNING,), (LESS, BLOCK, MOST, TOTAL), (TURNING, LESS)):
            self.check_recipe(machines, closure(*machines))

    def test_limits(self):
        self.assertEqual(len(closure(TURNING)), len(closure_by_search([TURNING])))
        many = len(closure(TURNING))
        self.assertEqual(closure(TURNING, most=many), closure(TURNING))
        self.assertEqual(closure_recipe(TURNING, most=many), closure_recipe(TURNING))
        for call in (closure, closure_recipe):
            for most in (1, 2, many - 1):
                with self.assertRaises(errors.TooLarge) as caught:
                    call(TURNING, most=most)
                self.assertEqual(caught.exception.limit, most)
            with self.assertRaises(errors.TooLarge) as caught:
                call(full_machine(), full_machine(seed=1))
            self.assertEqual(caught.exception.limit, 300)
            for most in WRONG + NOTHING + [0, 301, "1", (1,)]:
                with self.assertRaises(errors.InvalidNumber) as caught:
                    call(TURNING, most=most)
                self.assertIs(caught.exception.value, most)
        free = make_machine("a", 1, (0, "a", 0, 0, 0))
        self.assertEqual([closure(free, most=1), closure_recipe(free, most=1)], [(((("free",),),),), (("letter", "a"),)])
        # Letters with the same tables stand for one tuple.
        same = make_machine("abcd", 1, *[(0, letter, 0, 0, 0) for letter in "abcd"])
        self.assertEqual([len(closure(same, most=1)), closure_recipe(same, same)], [1, (("letter", "a"),)])

    def test_errors(self):
        for call in (closure, closure_recipe):
            for wrong in [*spoiled(LESS), None]:
                self.assertRaises(errors.InvalidMachine, call, wrong, most=0)
                self.assertRaises(errors.InvalidMachine, call, LESS, wrong, OTHER, most=0)
            self.assertRaises(errors.InvalidOperation, call, LESS, OTHER, None, most=0)
            self.assertRaises(errors.InvalidOperation, call, LESS, LESS, OTHER)
            self.assertRaises(errors.InvalidNumber, call, full_machine(), most=0)


class ClosedTests(unittest.TestCase):
    def test_parts_of_closed_sets(self):
        for machines in ((LESS,), (LESS, BLOCK), (MOST, TOTAL, BLOCK)):
            whole = closure(*machines)
            self.assertIs(is_closed(whole, *machines), True)
            for place in range(len(whole)):
                less = whole[:place] + whole[place + 1:]
                self.assertIs(is_closed(less, *machines), False)
                self.assertIs(is_closed(whole[:place] + whole[place:place + 1] + whole[place:], *machines), False)
                swapped = list(whole)
                swapped[place - 1], swapped[place] = swapped[place], swapped[place - 1]
                self.assertIs(is_closed(tuple(swapped), *machines), False)
            self.assertIs(is_closed(whole[::-1], *machines), False)
            self.assertIs(is_closed(whole, *machines, LESS), False)

    def test_greater_closed_sets(self):
        for size in (1, 2):
            machine = some_machine(3 + size, most_states=1) if size == 1 else LESS
            rows = list(itertools.product(GRADES, repeat=size))
            tables = itertools.product(rows, repeat=size)
            whole = tuple(sorted((table,) for table in tables))
            self.assertIs(is_closed(whole, machine), True)
            self.assertIs(is_closed(whole[1:], machine), is_closed_by_search(whole[1:], [machine]) if size == 1 else False)
        none = (("none", "none"), ("none", "none"))
        one = tuple(sorted(closure(LESS) + ((none,),)))
        self.assertIs(is_closed(one, LESS), True)

    def test_against_a_search(self):
        draw = random.Random(8)
        closed = 0
        for seed in range(150):
            machines = [some_machine(seed, most_states=2, most_steps=4), some_machine(seed + 9, most_states=1)]
            whole = closure(*machines)
            further = [tuple(some_table(draw, machine[1]) for machine in machines) for _ in range(draw.randint(0, 2))]
            for _ in range(4):
                value = tuple(sorted(set(whole) | set(further)))
                expected = is_closed_by_search(value, machines)
                closed += expected and len(value) > len(whole)
                self.assertIs(is_closed(value, *machines), expected)
                # Adding products brings the set nearer to a closed one.
                further += [
                    tuple(plain_product(a, b) for a, b in zip(one, other))
                    for one in further[:3] for other in (*whole[:3], *further[:3])
                ]
                further += [tuple(plain_product(b, a) for a, b in zip(one, whole[0])) for one in further[:3]]
        self.assertGreater(closed, 20)

    def test_wrong_values(self):
        whole = closure(LESS, BLOCK)
        for value in spoiled(whole):
            self.assertIs(is_closed(value, LESS, BLOCK), False)
        for grade in GRADES:
            for value in replaced(whole[:2], grade):
                self.assertIs(is_closed(tuple(value) + whole[2:], LESS, BLOCK), value == whole[:2])
        for entry in (whole[0] + whole[0][:1], whole[0][:1], whole[0][::-1]):
            self.assertIs(is_closed(tuple(sorted((*whole, entry))), LESS, BLOCK), False)
        for value in ((), ((),), (((),),), ((whole[0][0],),), whole + (("a", "b"),), closure(BLOCK, LESS), closure(LESS)):
            self.assertIs(is_closed(value, LESS, BLOCK), False)

    def test_errors(self):
        for wrong in [*spoiled(LESS), None]:
            self.assertRaises(errors.InvalidMachine, is_closed, None, wrong)
            self.assertRaises(errors.InvalidMachine, is_closed, (), LESS, wrong, OTHER)
        self.assertRaises(errors.InvalidOperation, is_closed, None, LESS, OTHER, None)
