"""[0.9], [1.1]: machines, and simple changes."""

import unittest

from openlimit import errors
from openlimit.machines import machines
from openlimit.machines.machines import (
    is_machine, is_meter, is_plain, machine_from, make_machine, plain_of, steps_from, trimmed, with_step,
    without_step,
)
from tests.helper import (
    BLOCK, LESS, MOST, NOTHING, TOTAL, WRONG, full_machine, need_by_runs, runs_on, some_machine, spoiled, words_to,
)

# All of its starts, finals and steps are there, so that each place can be spoiled.
THREE = ("abc", 3, (0, 2), (1, 2), ((0, "a", 0, 1, 2), (0, "b", 1, 3, 1), (2, "c", 1, 0, 0)))
BARE = ("a", 1, (), (), ())
SIXTY = tuple((i % 8, "abcd"[i % 4], 0, i // 8 % 4, i // 32) for i in range(60))


class ConstantTests(unittest.TestCase):
    def test_constants(self):
        self.assertEqual(
            (machines.MAX_STATES, machines.MAX_STEPS, machines.MAX_COST, machines.MAX_LETTERS), (8, 60, 3, 4)
        )


class IsMachineTests(unittest.TestCase):
    def test_machines(self):
        for machine in (BLOCK, TOTAL, MOST, LESS, THREE, BARE, ("abyz", 8, (), (), ()), full_machine()):
            self.assertIs(is_machine(machine), True)
        self.assertIs(is_machine(("a", 8, tuple(range(8)), tuple(range(8)), ())), True)
        self.assertIs(is_machine(("ab", 1, (), (0,), ((0, "a", 0, 0, 0), (0, "a", 1, 0, 0)))), True)

    def test_wrong_values(self):
        for value in WRONG + NOTHING + ["ab", 1, 10 ** 39, (), "", BLOCK[4], BLOCK[:4], BLOCK + ((),)]:
            self.assertIs(is_machine(value), False, value)
        for value in spoiled(THREE):
            self.assertIs(is_machine(value), False, value)

    def test_booleans(self):
        self.assertIs(is_machine(("a", True, (), (), ())), False)
        self.assertIs(is_machine(("a", 1, (False,), (), ())), False)
        self.assertIs(is_machine(("a", 1, (), (False,), ())), False)
        step = (0, "a", 0, 1, 0)
        for place in (0, 2, 3, 4):
            spoiled_step = step[:place] + (bool(step[place]),) + step[place + 1:]
            self.assertIs(is_machine(("a", 1, (), (), (spoiled_step,))), False)

    def test_what_the_package_returns_is_no_machine(self):
        for value in (steps_from(BLOCK, 0), errors.InvalidMachine("a"), is_machine(BLOCK)):
            self.assertIs(is_machine(value), False)

    def test_alphabets(self):
        for alphabet in ("a", "z", "az", "abcd", "mnop"):
            self.assertIs(is_machine((alphabet, 1, (), (), ())), True)
        for alphabet in ("", "abcde", "ba", "aa", "A", "aB", "a b", "a\n", "1", "`", "{", "\u00e9", ("a",), ["a"]):
            self.assertIs(is_machine((alphabet, 1, (), (), ())), False)

    def test_sizes(self):
        for size in range(1, 9):
            self.assertIs(is_machine(("a", size, (size - 1,), (0,), ((size - 1, "a", 0, 0, 0),))), True)
            self.assertIs(is_machine(("a", size, (size,), (), ())), False)
            self.assertIs(is_machine(("a", size, (), (size,), ())), False)
            self.assertIs(is_machine(("a", size, (), (), ((size, "a", 0, 0, 0),))), False)
            self.assertIs(is_machine(("a", size, (), (), ((0, "a", 0, 0, size),))), False)
        for size in (0, -1, 9, 10 ** 39, "1", None, (1,)):
            self.assertIs(is_machine(("a", size, (), (), ())), False)

    def test_restarts_and_costs(self):
        for restart in (-1, 0, 1, 2):
            for cost in (-1, 0, 1, 2, 3, 4):
                expected = restart in (0, 1) and cost in (0, 1, 2, 3)
                self.assertIs(is_machine(("a", 1, (), (), ((0, "a", restart, cost, 0),))), expected)

    def test_letters_of_steps(self):
        for letter in ("c", "", "ab", "A", "\n", 0, None):
            self.assertIs(is_machine(("ab", 1, (), (), ((0, letter, 0, 0, 0),))), False)

    def test_many_steps(self):
        self.assertIs(is_machine(("abcd", 8, (0,), (1,), tuple(sorted(SIXTY)))), True)
        more = tuple(sorted(SIXTY + ((7, "d", 1, 3, 7),)))
        self.assertEqual(len(set(more)), 61)
        self.assertIs(is_machine(("abcd", 8, (0,), (1,), more)), False)

    def test_order(self):
        self.assertIs(is_machine(("ab", 2, (1, 0), (), ())), False)
        self.assertIs(is_machine(("ab", 2, (0, 0), (), ())), False)
        self.assertIs(is_machine(("ab", 2, (), (1, 0), ())), False)
        self.assertIs(is_machine(("ab", 2, (), (1, 1), ())), False)
        self.assertIs(is_machine(BLOCK[:4] + (BLOCK[4][::-1],)), False)
        self.assertIs(is_machine(BLOCK[:4] + (BLOCK[4][:1] * 2,)), False)


class MakeTests(unittest.TestCase):
    def test_defaults(self):
        self.assertEqual(make_machine("ab", 2), ("ab", 2, (0,), (), ()))
        self.assertEqual(make_machine("ab", 2, starts=(), finals=(1,)), ("ab", 2, (), (1,), ()))

    def test_parts_may_be_in_any_order_and_repeated(self):
        steps = THREE[4]
        expected = THREE
        self.assertEqual(make_machine("abc", 3, *steps[::-1], *steps, starts=(2, 0, 2), finals=(2, 1, 1)), expected)
        self.assertEqual(machine_from("abc", 3, steps[::-1] + steps, (2, 0, 2), (2, 1, 1)), expected)
        self.assertEqual(machine_from("a", 1, (), (), ()), BARE)

    def test_keywords(self):
        self.assertRaises(errors.InvalidMachine, make_machine, "ab", 2, (0,), (1,))
        self.assertEqual(make_machine("a", 1, finals=(0,), starts=()), ("a", 1, (), (0,), ()))

    def test_many_steps(self):
        self.assertEqual(len(make_machine("abcd", 8, *SIXTY)[4]), 60)
        twice = SIXTY + SIXTY[:1]
        self.assertEqual(len(twice), 61)
        self.assertEqual(make_machine("abcd", 8, *twice), make_machine("abcd", 8, *SIXTY))
        self.assertEqual(machine_from("abcd", 8, SIXTY * 3, (0,), ()), make_machine("abcd", 8, *SIXTY))
        more = SIXTY + ((7, "d", 1, 3, 7),)
        self.assertRaises(errors.InvalidMachine, make_machine, "abcd", 8, *more)
        self.assertRaises(errors.InvalidMachine, machine_from, "abcd", 8, more, (0,), ())

    def test_wrong_parts(self):
        parts = (THREE[0], THREE[1], THREE[4], THREE[2], THREE[3])
        self.assertEqual(machine_from(*parts), THREE)
        for value in spoiled(parts):
            if isinstance(value, tuple) and len(value) == 5:
                with self.assertRaises(errors.InvalidMachine, msg=value):
                    machine_from(*value)
                if isinstance(value[2], tuple):
                    with self.assertRaises(errors.InvalidMachine, msg=value):
                        make_machine(value[0], value[1], *value[2], starts=value[3], finals=value[4])

    def test_no_tuples(self):
        self.assertRaises(errors.InvalidMachine, make_machine, "a", 1, [0, "a", 0, 0, 0])
        self.assertRaises(errors.InvalidMachine, make_machine, "a", 1, starts=[0])
        self.assertRaises(errors.InvalidMachine, make_machine, "a", 1, starts=0)
        self.assertRaises(errors.InvalidMachine, make_machine, "a", 1, finals={0: 0})
        self.assertRaises(errors.InvalidMachine, make_machine, "a", 1, finals=None)
        self.assertRaises(errors.InvalidMachine, machine_from, "a", 1, [], (), ())
        self.assertRaises(errors.InvalidMachine, machine_from, "a", 1, None, (), ())

    def test_arguments_stay(self):
        steps, starts = [(0, "a", 0, 0, 0)] * 2, (0, 0)
        make_machine("a", 1, *steps, starts=starts)
        self.assertEqual((steps, starts), ([(0, "a", 0, 0, 0)] * 2, (0, 0)))
        self.assertEqual(make_machine("a", 1, *steps), make_machine("a", 1, *steps))


class StepsTests(unittest.TestCase):
    def test_steps_from(self):
        self.assertEqual(list(steps_from(THREE, 0)), [(0, THREE[4][0]), (1, THREE[4][1])])
        self.assertEqual(list(steps_from(THREE, 1)), [])
        self.assertEqual(list(steps_from(THREE, 2)), [(2, THREE[4][2])])

    def test_read_in_part_and_again(self):
        some = steps_from(LESS, 0)
        self.assertEqual(next(some), (0, (0, "a", 0, 1, 0)))
        self.assertEqual(list(steps_from(LESS, 0)), [(0, (0, "a", 0, 1, 0)), (1, (0, "b", 0, 0, 0))])
        self.assertEqual(next(some), (1, (0, "b", 0, 0, 0)))
        self.assertRaises(StopIteration, next, some)

    def test_errors_come_with_the_first_result(self):
        for machine, state, expected in ((None, 0, errors.InvalidMachine), (LESS, 2, errors.InvalidNumber)):
            some = steps_from(machine, state)
            self.assertRaises(expected, next, some)

    def test_wrong_states(self):
        for state in WRONG + NOTHING + [2, 3, "0", (0,)]:
            with self.assertRaises(errors.InvalidNumber) as caught:
                next(steps_from(LESS, state))
            self.assertIs(caught.exception.value, state)

    def test_first_error(self):
        self.assertRaises(errors.InvalidMachine, next, steps_from(LESS[:4], 9))

    def test_meters_and_plain_machines(self):
        self.assertEqual([is_meter(m) for m in (BLOCK, TOTAL, MOST, LESS, THREE, BARE)],
                         [False, True, True, True, False, True])
        self.assertEqual([is_plain(m) for m in (BLOCK, TOTAL, MOST, LESS, THREE, BARE)],
                         [False, False, False, False, False, True])
        resets = make_machine("a", 1, (0, "a", 1, 0, 0))
        self.assertEqual([is_meter(resets), is_plain(resets)], [False, True])
        free = make_machine("a", 2, (0, "a", 0, 0, 1), finals=(1,))
        self.assertEqual([is_meter(free), is_plain(free)], [True, True])

    def test_others_are_neither(self):
        for value in WRONG + NOTHING + ["ab", 0, (), BARE[:4], list(BARE), ("a", 1, (), (), [])]:
            self.assertIs(is_meter(value), False)
            self.assertIs(is_plain(value), False)
        for value in spoiled(TOTAL):
            self.assertIs(is_meter(value), False)
        for value in spoiled(plain_of(LESS)):
            self.assertIs(is_plain(value), False)
        for machine in (TOTAL, BARE):
            self.assertIs(is_meter(machine), True)
        self.assertIs(is_plain(BARE), True)


class ChangeTests(unittest.TestCase):
    def test_with_step(self):
        more = make_machine("ab", 1, (0, "a", 0, 0, 0), *BLOCK[4], finals=(0,))
        self.assertEqual(with_step(BLOCK, (0, "a", 0, 0, 0)), more)
        self.assertEqual(with_step(BLOCK, (0, "a", 1, 1, 0))[4], (BLOCK[4][0], (0, "a", 1, 1, 0), BLOCK[4][1]))
        self.assertEqual(with_step(BLOCK, (0, "b", 1, 3, 0))[4], BLOCK[4] + ((0, "b", 1, 3, 0),))
        self.assertEqual(with_step(BARE, (0, "a", 0, 0, 0)), ("a", 1, (), (), ((0, "a", 0, 0, 0),)))
        for step in BLOCK[4]:
            self.assertEqual(with_step(BLOCK, step), BLOCK)

    def test_with_step_at_the_limit(self):
        machine = make_machine("abcd", 8, *SIXTY)
        short = without_step(machine, 59)
        self.assertEqual(with_step(short, machine[4][59]), machine)
        for step in machine[4]:
            self.assertEqual(with_step(machine, step), machine)
        with self.assertRaises(errors.TooLarge) as caught:
            with_step(machine, (7, "d", 1, 3, 7))
        self.assertEqual(caught.exception.limit, 60)
        for step in ((8, "d", 1, 3, 7), (7, "e", 1, 3, 7), (7, "d", True, 3, 7), [7, "d", 1, 3, 7], None):
            self.assertRaises(errors.InvalidOperation, with_step, machine, step)

    def test_wrong_steps(self):
        for step in spoiled((2, "b", 0, 2, 1)):
            self.assertRaises(errors.InvalidOperation, with_step, THREE, step)
        others = (
            (3, "a", 0, 0, 0), (0, "d", 0, 0, 0), (0, "a", 2, 0, 0), (0, "a", 0, 4, 0), (0, "a", 0, 0, 3),
            (0, "", 0, 0, 0), (0, "ab", 0, 0, 0), (), "step",
        )
        for step in others:
            self.assertRaises(errors.InvalidOperation, with_step, THREE, step)

    def test_without_step(self):
        self.assertEqual(without_step(THREE, 0), THREE[:4] + (THREE[4][1:],))
        self.assertEqual(without_step(THREE, 1), THREE[:4] + ((THREE[4][0], THREE[4][2]),))
        self.assertEqual(without_step(THREE, 2), THREE[:4] + (THREE[4][:2],))

    def test_wrong_indices(self):
        for index in WRONG + NOTHING + [3, "0", (0,)]:
            with self.assertRaises(errors.InvalidNumber) as caught:
                without_step(THREE, index)
            self.assertIs(caught.exception.value, index)
        self.assertRaises(errors.InvalidNumber, without_step, BARE, 0)

    def test_wrong_machines(self):
        for machine in [*spoiled(THREE), "ab", 0]:
            self.assertRaises(errors.InvalidMachine, with_step, machine, None)
            self.assertRaises(errors.InvalidMachine, without_step, machine, None)
            self.assertRaises(errors.InvalidMachine, trimmed, machine)
            self.assertRaises(errors.InvalidMachine, plain_of, machine)
            self.assertRaises(errors.InvalidMachine, next, steps_from(machine, None))


class TrimmedTests(unittest.TestCase):
    def test_states_that_are_never_reached(self):
        machine = make_machine("a", 3, (0, "a", 0, 0, 1), (2, "a", 0, 1, 1), finals=(1,))
        self.assertEqual(trimmed(machine), ("a", 2, (0,), (1,), ((0, "a", 0, 0, 1),)))

    def test_states_that_lead_nowhere(self):
        machine = make_machine("a", 3, (0, "a", 0, 0, 1), (0, "a", 0, 0, 2), (1, "a", 0, 0, 1), finals=(2,))
        self.assertEqual(trimmed(machine), ("a", 2, (0,), (1,), ((0, "a", 0, 0, 1),)))

    def test_starts_and_finals_are_numbered_anew(self):
        machine = make_machine(
            "ab", 5, (1, "a", 1, 2, 3), (3, "b", 0, 3, 3), (0, "a", 0, 0, 0), starts=(0, 1, 4), finals=(2, 3)
        )
        self.assertEqual(trimmed(machine), ("ab", 2, (0,), (1,), ((0, "a", 1, 2, 1), (1, "b", 0, 3, 1))))

    def test_a_start_that_is_a_final(self):
        machine = make_machine("a", 3, (0, "a", 0, 0, 1), starts=(0, 2), finals=(2,))
        self.assertEqual(trimmed(machine), ("a", 1, (0,), (0,), ()))

    def test_no_useful_state(self):
        expected = ("ab", 1, (), (), ())
        self.assertEqual(trimmed(make_machine("ab", 2, (0, "a", 0, 0, 1))), expected)
        self.assertEqual(trimmed(make_machine("ab", 2, starts=(0,), finals=(1,))), expected)
        self.assertEqual(trimmed(make_machine("ab", 8, (0, "a", 0, 0, 1), starts=(), finals=(1,))), expected)

    def test_long_ways(self):
        line = tuple((state, "a", 0, 1, state - 1) for state in range(1, 8))
        machine = machine_from("a", 8, line, (7,), (0,))
        self.assertEqual(trimmed(machine), machine)
        self.assertEqual(trimmed(machine_from("a", 8, line[1:], (7,), (0,))), ("a", 1, (), (), ()))
        back = tuple((step[4], *step[1:4], step[0]) for step in line)
        machine = machine_from("a", 8, back, (0,), (7,))
        self.assertEqual(trimmed(machine), machine)

    def test_whole_machines_stay(self):
        for machine in (BLOCK, TOTAL, MOST, LESS, BARE, full_machine()):
            self.assertEqual(trimmed(machine), machine)

    def test_against_all_runs(self):
        for seed in range(150):
            machine = some_machine(seed)
            small = trimmed(machine)
            self.assertTrue(is_machine(small))
            self.assertEqual(small[0], machine[0])
            self.assertEqual(trimmed(small), small)
            passed = set()
            for word in words_to("ab", 4):
                self.assertEqual(need_by_runs(small, word), need_by_runs(machine, word))
                for (state, indices), end, _ in runs_on(machine, word):
                    if state in machine[2] and end in machine[3]:
                        passed |= {state} | {machine[4][index][4] for index in indices}
            # Words of four letters are enough only if no useful state is farther away.
            if machine[1] <= 3:
                self.assertEqual(small[1], max(1, len(passed)))


class PlainTests(unittest.TestCase):
    def test_plain_of(self):
        self.assertEqual(plain_of(BLOCK), ("ab", 1, (0,), (0,), ((0, "a", 0, 0, 0), (0, "b", 0, 0, 0))))
        self.assertEqual(plain_of(THREE)[:4], THREE[:4])
        self.assertEqual(plain_of(THREE)[4], ((0, "a", 0, 0, 2), (0, "b", 0, 0, 1), (2, "c", 0, 0, 0)))
        self.assertEqual(plain_of(BARE), BARE)

    def test_equal_steps_become_one_in_order(self):
        machine = make_machine("a", 2, *((0, "a", r, c, g) for r in (0, 1) for c in range(4) for g in (0, 1)))
        self.assertEqual(plain_of(machine)[4], ((0, "a", 0, 0, 0), (0, "a", 0, 0, 1)))
        for seed in range(50):
            plain = plain_of(some_machine(seed))
            self.assertTrue(is_machine(plain) and is_plain(plain) and is_meter(plain))
            self.assertEqual(plain_of(plain), plain)
